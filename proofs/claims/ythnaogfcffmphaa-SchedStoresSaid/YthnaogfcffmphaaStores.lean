/-
  PROVED: the law SchedStores answers true for every input, and each argument reads behind the call as before (Rows.SchedStoresSaid). No condition.
-/
import Derived.Test.YthnaogfcffmphaaRows
import Derived.Test.YthnaogfcffmphaaLaw
import Derived.Test.YthnaogfcffmphaaArgs
import Derived.Test.YthnaogfcffmphaaWEnd
import Derived.Test.YthnaogfcffmphaaSAwake
namespace Go.Proofs.Ythnaogfcffmphaa.schedStores
open Go.ChangeShapes Go.WideShapes Go.ChangeAt Go.RowKit Go.Proofs.Ythnaogfcffmphaa.Law Go.Proofs.Ythnaogfcffmphaa.Args
set_option linter.unusedVariables false
set_option linter.unusedSimpArgs false
open Go.Proofs.Ythnaogfcffmphaa.Sched Go.Proofs.Ythnaogfcffmphaa.Mem Go.Proofs.Ythnaogfcffmphaa.Own
set_option maxRecDepth 100000 in
set_option maxHeartbeats 4000000 in
theorem walk (W : World) (A0 : Option Addr) (n0 c0 : Nat) (z0 : List Int) (l0 : z0.length = n0) (b0 : n0 ≤ c0) (m0 : c0 ≤ maxLen) (s0 : c0 * 8 ≤ 140737488351232) (r0 : IntsAt .u64 W W.heap.size A0 z0) (w0 : ∀ z ∈ z0, (Lit.int .u64 z).wf = true)
    (A1 : Option Addr) (n1 c1 : Nat) (z1 : List Int) (l1 : z1.length = n1) (b1 : n1 ≤ c1) (m1 : c1 ≤ maxLen) (s1 : c1 * 8 ≤ 140737488351232) (r1 : IntsAt .u64 W W.heap.size A1 z1) (w1 : ∀ z ∈ z1, (Lit.int .u64 z).wf = true)
    (A2 : Option Addr) (n2 c2 : Nat) (z2 : List Int) (l2 : z2.length = n2) (b2 : n2 ≤ c2) (m2 : c2 ≤ maxLen) (s2 : c2 * 8 ≤ 140737488351232) (r2 : IntsAt .i64 W W.heap.size A2 z2) (w2 : ∀ z ∈ z2, (Lit.int .i64 z).wf = true) :
    Calls Try.prog 9 #[.slice A0 n0 c0, .slice A1 n1 c1, .slice A2 n2 c2] W fun e W' => e = .returned (.bool true) ∧ Below W.heap.size W W' := by
  have hn0 : n0 ≤ 9223372036854775807 := by omega
  have hn1 : n1 ≤ 9223372036854775807 := by omega
  have hn2 : n2 ≤ 9223372036854775807 := by omega
  have HR0 := Lib.hid r0
  have HR1 := Lib.hid r1
  have HR2 := Lib.hid r2
  have HW0 := Lib.hid w0
  have HW1 := Lib.hid w1
  have HW2 := Lib.hid w2
  have HL0 := Lib.hid l0
  have HL1 := Lib.hid l1
  have HL2 := Lib.hid l2
  clear r0 r1 r2 w0 w1 w2 l0 l1 l2 b0 m0 s0 b1 m1 s1 b2 m2 s2
  by_cases h0 : n0 ≤ 30
  · have h0d : decide ((30 : Int) < (n0 : Int)) = false := by simp; omega
    by_cases h1 : n1 ≤ 30
    · have h1d : decide ((30 : Int) < (n1 : Int)) = false := by simp; omega
      by_cases h2 : n2 ≤ 100
      · have h2d : decide ((100 : Int) < (n2 : Int)) = false := by simp; omega
        have HNEW : Hid (∀ w, Calls Try.prog 29 #[.int .i64 2] w fun e w' => ∃ A : Dev.Adr, e = .returned (.tuple #[.pointer (some ⟨A.d, 0, none⟩), .int .i64 0]) ∧ Hid (Dev.IsDev w' w.heap.size A (Dev.St.new 2) ∧ Below w.heap.size w w')) := Lib.hid fun w => Dev.new_any w 2 (by omega) (by omega)
        have HTH0 : Hid (∀ w d, Calls Try.prog 30 #[.pointer (some ⟨d, 0, none⟩), .int .i64 0] w fun q w' => q = .returned (.pointer (some ⟨d, 1, none⟩)) ∧ w' = w) := Lib.hid fun w d => Dev.thread_any w d 0 (by omega)
        have HTH1 : Hid (∀ w d, Calls Try.prog 30 #[.pointer (some ⟨d, 0, none⟩), .int .i64 1] w fun q w' => q = .returned (.pointer (some ⟨d, 5, none⟩)) ∧ w' = w) := Lib.hid fun w d => Dev.thread_any w d 1 (by omega)
        have HTA := HTH0
        have HTB := HTH1
        have HTC := HTH0
        have HTD := HTH1
        clear HTH0 HTH1
        go_enter Try.func9, Try.ntmps9
        go_wp2_with (first
          | (go_at_call 11; go_must (refine (awake_any _).mono ?_); rintro e wa ⟨rfl, hba⟩; have HBA := Lib.hid hba; clear hba)
          | (go_at_call 29; go_must (refine (HNEW.out _).mono ?_); rintro e wb ⟨A, rfl, HD⟩)
          | (go_at_call 30; have tt := HTA; clear HTA; go_must (refine (tt.out _ _).mono ?_); rintro e w' ⟨rfl, hw⟩; have hw2 := hw.symm; clear hw; subst hw2; clear tt)
          | (go_at_call 30; have tt := HTB; clear HTB; go_must (refine (tt.out _ _).mono ?_); rintro e w' ⟨rfl, hw⟩; have hw2 := hw.symm; clear hw; subst hw2; clear tt)
          | (go_at_call 30; have tt := HTC; clear HTC; go_must (refine (tt.out _ _).mono ?_); rintro e w' ⟨rfl, hw⟩; have hw2 := hw.symm; clear hw; subst hw2; clear tt)
          | (go_at_call 30; have tt := HTD; clear HTD; go_must (refine (tt.out _ _).mono ?_); rintro e w' ⟨rfl, hw⟩; have hw2 := hw.symm; clear hw; subst hw2; clear tt))
        have HRDY := Lib.hid (ready (c0 := c0) (c1 := c1) HL0.out HL1.out h0 h1 HR0.out HR1.out HW0.out HW1.out HBA.out HD.out.1 HD.out.2 _ rfl)
        obtain ⟨s, hs⟩ : ∃ s, wb.heap.size = s := ⟨_, rfl⟩
        rw [hs] at HRDY ⊢
        obtain ⟨Z, hZ⟩ : ∃ Z : WD, Z = ⟨A.d, fun i => if i = 0 then n0 else n1, fun i => if i = 0 then A0 else A1, fun i => if i = 0 then c0 else c1, fun i => if i = 0 then z0 else z1, W.heap.size, wa.heap.size, fun b => A.foot 2 b⟩ := ⟨_, rfl⟩
        rw [← hZ] at HRDY
        have HZ0 : Hid (Z.E 0 = A0 ∧ Z.n 0 = n0 ∧ Z.c 0 = c0 ∧ Z.z 0 = z0) := Lib.hid (by rw [hZ]; exact ⟨rfl, rfl, rfl, rfl⟩)
        have HZ1 : Hid (Z.E 1 = A1 ∧ Z.n 1 = n1 ∧ Z.c 1 = c1 ∧ Z.z 1 = z1) := Lib.hid (by rw [hZ]; exact ⟨rfl, rfl, rfl, rfl⟩)
        have HB0 : Hid (W.heap.size ≤ Z.b0) := Lib.hid (by rw [hZ]; exact HBA.out.size)
        have HZD : Hid (Z.d = A.d ∧ Z.Bv = W.heap.size) := Lib.hid (by rw [hZ]; exact ⟨rfl, rfl⟩)
        clear hZ
        obtain ⟨ws, hws⟩ : ∃ ws, ws = (wb.alloc (.cells #[.pointer (some ⟨A.d, 1, none⟩), .int .u64 64, .slice A0 n0 c0, .int .i64 0] 66)).alloc (.cells #[.pointer (some ⟨A.d, 5, none⟩), .int .u64 64, .slice A1 n1 c1, .int .i64 0] 66) := ⟨_, rfl⟩
        rw [← hws] at HRDY ⊢
        have hss : ws.heap.size = s + 2 := by rw [hws]; simp; exact hs
        obtain ⟨wt, hwt⟩ : ∃ wt, wt = ws.alloc (.cells #[.pointer (some ⟨s, 0, none⟩), .pointer (some ⟨s + 1, 0, none⟩)] 64) := ⟨_, rfl⟩
        rw [← hwt]
        have BT : Blk wt (s + 2) 64 2 (fun o => if o = 0 then .pointer (some ⟨s, 0, none⟩) else .pointer (some ⟨s + 1, 0, none⟩)) := by
          rw [hwt, ← hss]
          refine Blk.newOf ws _ _ (n := 2) rfl fun o ho => ?_
          rcases o with _ | _ | o
          · rfl
          · rfl
          · omega
        have p0 : wt.cell? ⟨s + 1 + 1, 0, none⟩ = some (.pointer (some ⟨s, 0, none⟩)) := BT.cell (o := 0) (by omega)
        have p1 : wt.cell? ⟨s + 1 + 1, 1, none⟩ = some (.pointer (some ⟨s + 1, 0, none⟩)) := BT.cell (o := 1) (by omega)
        have hts : wt.heap.size = s + 3 := by rw [hwt]; simp; omega
        have HBT := Lib.hid BT
        have HSS := Lib.hid hss
        have HTS := Lib.hid hts
        have HST : Hid (Below ws.heap.size ws wt) := Lib.hid (by rw [hwt]; exact (Below.refl _ _).alloc (Nat.le_refl _) _)
        have HWT := Lib.hid hwt
        have HWS := Lib.hid hws
        have HS := Lib.hid hs
        clear hws hwt hs BT hss hts
        have HC : Hid (∀ w', Blk w' (s + 2) 64 2 (fun o => if o = 0 then .pointer (some ⟨s, 0, none⟩) else .pointer (some ⟨s + 1, 0, none⟩)) → w'.cell? ⟨s + 1 + 1, 0, none⟩ = some (.pointer (some ⟨s, 0, none⟩)) ∧ w'.cell? ⟨s + 1 + 1, 1, none⟩ = some (.pointer (some ⟨s + 1, 0, none⟩))) := Lib.hid fun w' hb => ⟨hb.cell (o := 0) (by omega), hb.cell (o := 1) (by omega)⟩
        go_region_held3 (fun w' => w'.cell? ⟨s + 1 + 1, 0, none⟩ = some (.pointer (some ⟨s, 0, none⟩)) ∧ w'.cell? ⟨s + 1 + 1, 1, none⟩ = some (.pointer (some ⟨s + 1, 0, none⟩))) (first | (constructor <;> assumption) | exact HC.out _ (HBT.out.alloc _) | exact HC.out _ ((HBT.out.alloc _).alloc _) | exact HC.out _ HBW.out | exact HC.out _ (HBW.out.alloc _) | exact HC.out _ ((HBW.out.setOther (by have := HTS.out; simp; omega) _).setOther (by have := HTS.out; simp; omega) _)) (first
          | (go_at_call 13; go_must (refine (ready_run HRDY.out _ _ (by repeat (first | exact HST.out | refine Below.drew ?_ | refine below_drewN ?_ _ | refine Below.alloc ?_ (by have := HSS.out; have := HTS.out; simp; omega) _)) (by first | exact machNew _ _ _ (by simp) | exact (machNew _ _ _ (by simp)).alloc _) A2 n2 c2 z2 HL2.out h2 HR2.out HW2.out).mono ?_); rintro e w2 ⟨As, ls, cs, Ae, le, ce, st, rfl, H2⟩; have HRAN := Lib.hid H2.out.1; have HBW : Hid (Blk w2 (s + 2) 64 2 (fun o => if o = 0 then .pointer (some ⟨s, 0, none⟩) else .pointer (some ⟨s + 1, 0, none⟩))) := Lib.hid (H2.out.2.blk (by first | exact HBT.out.alloc _ | exact (HBT.out.alloc _).alloc _) (HRDY.out.notWF (by have := HSS.out; omega) (by have := HTS.out; simp; omega))); (first | (have LB := H2.out.2.blk ((logNew _ wt.heap.size (by simp)).alloc _) (HRDY.out.notWF (by have := HSS.out; have := HTS.out; omega) (by simp <;> omega)); have l0 := LB.cell (o := 0) (by omega); have l1 := LB.cell (o := 1) (by omega); have f0 := LB.frozen 0; have f1 := LB.frozen 1; have HLB := Lib.hid LB; clear LB) | (have LB := H2.out.2.blk (logNew _ (wt.heap.size + 1) (by simp)) (HRDY.out.notWF (by have := HSS.out; have := HTS.out; omega) (by simp <;> omega)); have l0 := LB.cell (o := 0) (by omega); have l1 := LB.cell (o := 1) (by omega); have f0 := LB.frozen 0; have f1 := LB.frozen 1; have HLB := Lib.hid LB; clear LB) | skip); clear H2))
        all_goals
          have HPW : Hid (Blk w2 (s + 2) 64 2 (fun o => .pointer (some ⟨s + o, 0, none⟩))) := Lib.hid (HBW.out.ext fun o ho => by
            rcases o with _ | _ | o
            · rfl
            · rfl
            · omega)
          first
            | (have HA := Lib.hid (after_set (lb := wt.heap.size) (v := .slice Ae le ce) HRDY.out HRAN.out HPW.out HLB.out (by have := HTS.out; have := HSS.out; have := HRDY.out.bel.size; omega))
               obtain ⟨lb, hlb⟩ : ∃ lb, lb = wt.heap.size := ⟨_, rfl⟩
               obtain ⟨wx, hwx⟩ : ∃ wx, wx = (w2.setCell ⟨wt.heap.size, 0, none⟩ (.slice As ls cs)).setCell ⟨wt.heap.size, 1, none⟩ (.slice Ae le ce) := ⟨_, rfl⟩
               rw [← hwx] at HA ⊢
               rw [← hlb] at HA ⊢
               clear hwx hlb)
            | (have HA := Lib.hid (after_set (lb := (wt.heap.size + 1)) (v := .slice Ae le ce) HRDY.out HRAN.out HPW.out HLB.out (by have := HTS.out; have := HSS.out; have := HRDY.out.bel.size; omega))
               obtain ⟨lb, hlb⟩ : ∃ lb, lb = wt.heap.size + 1 := ⟨_, rfl⟩
               obtain ⟨wx, hwx⟩ : ∃ wx, wx = (w2.setCell ⟨wt.heap.size + 1, 0, none⟩ (.slice As ls cs)).setCell ⟨wt.heap.size + 1, 1, none⟩ (.slice Ae le ce) := ⟨_, rfl⟩
               rw [← hwx] at HA ⊢
               rw [← hlb] at HA ⊢
               clear hwx hlb)
            | (have HA := Lib.hid (after_fresh (v := .slice Ae le ce) HRDY.out HRAN.out HPW.out)
               obtain ⟨lb, hlb⟩ : ∃ lb, lb = w2.heap.size := ⟨_, rfl⟩
               obtain ⟨wx, hwx⟩ : ∃ wx, wx = w2.alloc (.cells #[.slice As ls cs, .slice Ae le ce] 27) := ⟨_, rfl⟩
               rw [← hwx] at HA ⊢
               rw [← hlb] at HA ⊢
               clear hwx hlb)
          clear HBW HRAN HPW HBT HST HC
          try clear HLB
          try clear l0 l1 f0 f1
          have hls100 : ls ≤ 100 := HA.out.few
          have cl : wx.cell? ⟨lb, 0, none⟩ = some (.slice As ls cs) := HA.out.log.cell (o := 0) (by omega)
          have HCZ := Lib.hid (counted_zero W wx Z st)
          have cl2 : (wx.alloc (.cells #[.int .i64 0, .int .i64 0] 3)).cell? ⟨lb, 0, none⟩ = some (.slice As ls cs) := (HA.out.log.alloc _).cell (o := 0) (by omega)
          go_wp2_with fail
          clear cl cl2
          go_loopw [12, 13, 80] (fun x c i wr => ∃ k : Nat, k ≤ ls ∧ i = .int .i64 k ∧ x = .int .u64 ((Wp.play Z (st.take k)).vals.getLastD 0 : Nat) ∧ c = .int .i64 ((Wp.play Z (st.take k)).vals.length : Nat) ∧ Hid (Counted W wx wr Z st k)) (fun _ _ i _ => ls - (intOf i).toNat)
          case atStart => exact ⟨0, by omega, rfl, rfl, rfl, HCZ⟩
          case round =>
            obtain ⟨k, hk, rfl, rfl, rfl, HCt⟩ := hrel
            obtain ⟨vv, hvv⟩ : ∃ vv, (Wp.play Z (st.take k)).vals = vv := ⟨_, rfl⟩
            rw [hvv]
            have HVV := Lib.hid hvv
            have hvl : vv.length ≤ 100 := by rw [← hvv]; refine Nat.le_trans (Wp.vals_le Z _) ?_; rw [List.length_take]; omega
            obtain ⟨lastv, hlast⟩ : ∃ l, vv.getLastD 0 = l := ⟨_, rfl⟩
            rw [hlast]
            have HLAST := Lib.hid hlast
            clear hvv hlast
            by_cases hkn : k < ls
            · have hki : (k : Int) < (ls : Int) := by omega
              have hk0 : (0 : Int) ≤ (k : Int) := by omega
              obtain ⟨ad, rfl, _, hcx⟩ := (HA.out.ints HCt.out.bel) (i := k) (by have := HA.out.len; omega)
              have hx2 : st.getD k 0 = 0 ∨ st.getD k 0 = 1 := by
                have hkl : k < st.length := by have := HA.out.len; omega
                have := HA.out.two (st[k]) (List.getElem_mem _)
                rw [List.getD_eq_getElem?_getD, List.getElem?_eq_getElem hkl]
                simp only [Option.getD_some]
                omega
              rcases hx2 with hx | hx
              all_goals
                rw [hx] at hcx
                have HXX := Lib.hid hx
                clear hx
              · obtain ⟨q0, f0, q1, q2, q3⟩ : wr.cell? ⟨wx.heap.size, 0, none⟩ = some (.int .i64 ((Wp.play Z (st.take k)).ats 0 : Int)) ∧ wr.frozen? ⟨wx.heap.size, 0, none⟩ = false ∧ wr.cell? ⟨s + 1 + 1, 0, none⟩ = some (.pointer (some ⟨s, 0, none⟩)) ∧ wr.cell? ⟨s, 2, none⟩ = some (.slice (Z.E 0) (Z.n 0) (Z.c 0)) ∧ IntsAt .u64 wr Z.Bv (Z.E 0) (Z.z 0) := loop_cells HA.out (by rw [HZD.out.2]; exact Nat.le_refl _) HCt.out 0 (by omega)
                obtain ⟨a, ha⟩ : ∃ a, (Wp.play Z (st.take k)).ats 0 = a := ⟨_, rfl⟩
                rw [ha] at q0
                rw [HZ0.out.1, HZ0.out.2.1, HZ0.out.2.2.1] at q2
                rw [HZ0.out.1, HZ0.out.2.2.2] at q3
                have HAA := Lib.hid ha
                have HQ3 := Lib.hid q3
                clear q3 ha
                by_cases han : a < n0
                · have hani : (a : Int) < (n0 : Int) := by omega
                  have ha0 : (0 : Int) ≤ (a : Int) := by omega
                  obtain ⟨ad2, hE2, _, hc2⟩ := HQ3.out (i := a) (by have := HL0.out; omega)
                  obtain ⟨y, hy⟩ : ∃ y : Nat, z0.getD a 0 = (y : Int) := by
                    have := wf_u64 (wf_at HW0.out (show a < z0.length by have := HL0.out; omega))
                    exact ⟨(z0.getD a 0).toNat, by omega⟩
                  rw [hy] at hc2
                  rw [hE2] at q2
                  have HM : Hid (∀ j, Counted W wx ((wr.drewN j).setCell ⟨wx.heap.size, 0, none⟩ (.int .i64 ((a : Int) + 1))) Z st (k + 1)) := Lib.hid fun j => ((HCt.out.drewN j).more (by have := HA.out.len; omega) HXX.out HAA.out (by rw [HZ0.out.2.1]; exact han)).2
                  have HV2 : Hid ((Wp.play Z (st.take (k + 1))).vals = vv ++ [y]) := Lib.hid (by rw [(HCt.out.more (by have := HA.out.len; omega) HXX.out HAA.out (by rw [HZ0.out.2.1]; exact han)).1, HVV.out, HZ0.out.2.2.2, hy]; rfl)
                  have HY := Lib.hid hy
                  have HE2 := Lib.hid hE2
                  clear hy hE2
                  go_wp2
                  go_quiet (fail)
                  go_wp2
                  go_quiet (fail)
                  go_wp2
                  go_roundw
                  case rel => exact ⟨k + 1, by omega, by go_num, by rw [HV2.out]; simp, by rw [HV2.out]; simp, Lib.hid (HM.out _)⟩
                  case measure => simp [intOf]; omega
                · have hani : ¬ (a : Int) < (n0 : Int) := by omega
                  have HM := Lib.hid (HCt.out.idle (by have := HA.out.len; omega) HXX.out (by rw [HAA.out, HZ0.out.2.1]; exact han))
                  go_wp2
                  go_quiet (fail)
                  go_wp2
                  go_roundw
                  case rel => exact ⟨k + 1, by omega, by go_num, by rw [HM.out.1, HVV.out, HLAST.out], by rw [HM.out.1, HVV.out], Lib.hid (by first | exact HM.out.2 | exact HM.out.2.drewN _)⟩
                  case measure => simp [intOf]; omega
              · obtain ⟨q0, f0, q1, q2, q3⟩ : wr.cell? ⟨wx.heap.size, 1, none⟩ = some (.int .i64 ((Wp.play Z (st.take k)).ats 1 : Int)) ∧ wr.frozen? ⟨wx.heap.size, 1, none⟩ = false ∧ wr.cell? ⟨s + 1 + 1, 1, none⟩ = some (.pointer (some ⟨s + 1, 0, none⟩)) ∧ wr.cell? ⟨s + 1, 2, none⟩ = some (.slice (Z.E 1) (Z.n 1) (Z.c 1)) ∧ IntsAt .u64 wr Z.Bv (Z.E 1) (Z.z 1) := loop_cells HA.out (by rw [HZD.out.2]; exact Nat.le_refl _) HCt.out 1 (by omega)
                obtain ⟨a, ha⟩ : ∃ a, (Wp.play Z (st.take k)).ats 1 = a := ⟨_, rfl⟩
                rw [ha] at q0
                rw [HZ1.out.1, HZ1.out.2.1, HZ1.out.2.2.1] at q2
                rw [HZ1.out.1, HZ1.out.2.2.2] at q3
                have HAA := Lib.hid ha
                have HQ3 := Lib.hid q3
                clear q3 ha
                by_cases han : a < n1
                · have hani : (a : Int) < (n1 : Int) := by omega
                  have ha0 : (0 : Int) ≤ (a : Int) := by omega
                  obtain ⟨ad2, hE2, _, hc2⟩ := HQ3.out (i := a) (by have := HL1.out; omega)
                  obtain ⟨y, hy⟩ : ∃ y : Nat, z1.getD a 0 = (y : Int) := by
                    have := wf_u64 (wf_at HW1.out (show a < z1.length by have := HL1.out; omega))
                    exact ⟨(z1.getD a 0).toNat, by omega⟩
                  rw [hy] at hc2
                  rw [hE2] at q2
                  have HM : Hid (∀ j, Counted W wx ((wr.drewN j).setCell ⟨wx.heap.size, 1, none⟩ (.int .i64 ((a : Int) + 1))) Z st (k + 1)) := Lib.hid fun j => ((HCt.out.drewN j).more (by have := HA.out.len; omega) HXX.out HAA.out (by rw [HZ1.out.2.1]; exact han)).2
                  have HV2 : Hid ((Wp.play Z (st.take (k + 1))).vals = vv ++ [y]) := Lib.hid (by rw [(HCt.out.more (by have := HA.out.len; omega) HXX.out HAA.out (by rw [HZ1.out.2.1]; exact han)).1, HVV.out, HZ1.out.2.2.2, hy]; rfl)
                  have HY := Lib.hid hy
                  have HE2 := Lib.hid hE2
                  clear hy hE2
                  go_wp2
                  go_quiet (fail)
                  go_wp2
                  go_quiet (fail)
                  go_wp2
                  go_roundw
                  case rel => exact ⟨k + 1, by omega, by go_num, by rw [HV2.out]; simp, by rw [HV2.out]; simp, Lib.hid (HM.out _)⟩
                  case measure => simp [intOf]; omega
                · have hani : ¬ (a : Int) < (n1 : Int) := by omega
                  have HM := Lib.hid (HCt.out.idle (by have := HA.out.len; omega) HXX.out (by rw [HAA.out, HZ1.out.2.1]; exact han))
                  go_wp2
                  go_quiet (fail)
                  go_wp2
                  go_roundw
                  case rel => exact ⟨k + 1, by omega, by go_num, by rw [HM.out.1, HVV.out, HLAST.out], by rw [HM.out.1, HVV.out], Lib.hid (by first | exact HM.out.2 | exact HM.out.2.drewN _)⟩
                  case measure => simp [intOf]; omega
            · have hk2 : k = ls := by omega
              have HEND : Hid (LastQ W wr Z (fun i => s + i) wx.heap.size (s + 2) st) := Lib.hid (LastQ.of HA.out (by rw [HZD.out.2]; exact Nat.le_refl _) HB0.out HCt.out hk2)
              have htk : st.take k = st := List.take_of_length_le (by have := HA.out.len; omega)
              have hvs : (Wp.play Z st).vals = vv := by rw [← HVV.out, htk]
              obtain ⟨a0, ha0⟩ : ∃ a, (Wp.play Z st).ats 0 = a := ⟨_, rfl⟩
              obtain ⟨a1, ha1⟩ : ∃ a, (Wp.play Z st).ats 1 = a := ⟨_, rfl⟩
              have HCL : Hid (∀ w, LastQ W w Z (fun i => s + i) wx.heap.size (s + 2) st → _) := Lib.hid fun w h => LastQ.cells ha0 ha1 h
              have HLD : Hid (∀ w, LastQ W w Z (fun i => s + i) wx.heap.size (s + 2) st → Calls Try.prog 31 #[.pointer (some ⟨A.d, 1, none⟩), .int .u64 64] w fun e w' => e = .returned (.int .u64 (lastv : Int)) ∧ Hid (LastQ W w' Z (fun i => s + i) wx.heap.size (s + 2) st)) := Lib.hid fun w h => by
                have := end_load h
                rw [HZD.out.1, hvs, HLAST.out] at this
                exact this
              have HHI : Hid (∀ w, LastQ W w Z (fun i => s + i) wx.heap.size (s + 2) st → Calls Try.prog 32 #[.pointer (some ⟨A.d, 0, none⟩), .int .i64 1] w fun e w' => ∃ C c, e = .returned (.slice C vv.length c) ∧ Hid (LastQ W w' Z (fun i => s + i) wx.heap.size (s + 2) st)) := Lib.hid fun w h => by
                have := end_hist h
                rw [HZD.out.1, hvs] at this
                exact this
              have HTH : Hid (∀ w d, Calls Try.prog 30 #[.pointer (some ⟨d, 0, none⟩), .int .i64 0] w fun q w' => q = .returned (.pointer (some ⟨d, 1, none⟩)) ∧ w' = w) := Lib.hid fun w d => Dev.thread_any w d 0 (by omega)
              obtain ⟨p0, p1, p2, p3, p4, p5⟩ := HCL.out _ HEND.out
              clear htk hvs ha0 ha1 hk2
              go_wp2
              go_region_held3 (fun w => w.cell? ⟨wx.heap.size, 0, none⟩ = some (.int .i64 (a0 : Int)) ∧ w.cell? ⟨wx.heap.size, 1, none⟩ = some (.int .i64 (a1 : Int)) ∧ w.cell? ⟨s + 1 + 1, 0, none⟩ = some (.pointer (some ⟨s, 0, none⟩)) ∧ w.cell? ⟨s + 1 + 1, 1, none⟩ = some (.pointer (some ⟨s + 1, 0, none⟩)) ∧ w.cell? ⟨s, 3, none⟩ = some (.int .i64 (a0 : Int)) ∧ w.cell? ⟨s + 1, 3, none⟩ = some (.int .i64 (a1 : Int))) (first | (refine ⟨?_, ?_, ?_, ?_, ?_, ?_⟩ <;> assumption) | exact HCL.out _ HEND.out | exact HCL.out _ HEND.out.drew | exact HCL.out _ (HEND.out.drewN _)) (first
                | (go_at_call 30; go_must (refine (HTH.out _ _).mono ?_); rintro e w' ⟨rfl, hw⟩; have hw2 := hw.symm; clear hw; subst hw2)
                | (go_at_call 31; go_must (refine (HLD.out _ (by first | exact HEND.out | exact HEND.out.drew | exact HEND.out.drewN _ | exact (HEND.out.drewN _).drew | exact (HEND.out.drewN _).drewN _)).mono ?_); rintro e wl ⟨rfl, HEND⟩)
                | (go_at_call 32; go_must (refine (HHI.out _ (by first | exact HEND.out | exact HEND.out.drew | exact HEND.out.drewN _ | exact (HEND.out.drewN _).drew | exact (HEND.out.drewN _).drewN _)).mono ?_); rintro e wh ⟨C, cH, rfl, HEND⟩))
              all_goals
                go_wp2
                go_ret
                exact ⟨rfl, by first | exact HEND.out.bel | exact (HEND.out.drewN _).bel | exact HEND.out.drew.bel⟩
      · have h3 : (100 : Int) < (n2 : Int) := by omega
        have h3d : decide ((100 : Int) < (n2 : Int)) = true := by simp; omega
        go_enter Try.func9, Try.ntmps9
        go_wp2_with fail
        refine (awake_any _).mono ?_
        rintro e wa ⟨rfl, hba⟩
        have HBA := Lib.hid hba
        clear hba
        go_wp2_with fail
        refine (awake_any _).mono ?_
        rintro e wb ⟨rfl, hbb⟩
        have HBB := Lib.hid hbb
        clear hbb
        go_wp2
        go_ret
        exact ⟨rfl, HBA.out.trans (HBB.out.mono HBA.out.size)⟩
    · have h3 : (30 : Int) < (n1 : Int) := by omega
      have h3d : decide ((30 : Int) < (n1 : Int)) = true := by simp; omega
      go_enter Try.func9, Try.ntmps9
      go_wp2_with fail
      refine (awake_any _).mono ?_
      rintro e wa ⟨rfl, hba⟩
      have HBA := Lib.hid hba
      clear hba
      go_wp2_with fail
      refine (awake_any _).mono ?_
      rintro e wb ⟨rfl, hbb⟩
      have HBB := Lib.hid hbb
      clear hbb
      go_wp2
      go_ret
      exact ⟨rfl, HBA.out.trans (HBB.out.mono HBA.out.size)⟩
  · have h3 : (30 : Int) < (n0 : Int) := by omega
    have h3d : decide ((30 : Int) < (n0 : Int)) = true := by simp; omega
    go_enter Try.func9, Try.ntmps9
    go_wp2_with fail
    refine (awake_any _).mono ?_
    rintro e wa ⟨rfl, hba⟩
    have HBA := Lib.hid hba
    clear hba
    go_wp2_with fail
    refine (awake_any _).mono ?_
    rintro e wb ⟨rfl, hbb⟩
    have HBB := Lib.hid hbb
    clear hbb
    go_wp2
    go_ret
    exact ⟨rfl, HBA.out.trans (HBB.out.mono HBA.out.size)⟩

/-! ### the frame -/
theorem cells3 : Try.prog.cellsOf 3 = 1 := by kernel_rfl
theorem cells51 : Try.prog.cellsOf 51 = 1 := by kernel_rfl
theorem own : ownKnob Try.prog.godebug = none := by kernel_rfl
set_option maxRecDepth 100000 in
theorem calls {H : Type} {enc : TypeId × Value → H} (W : World) (base : Nat) (args : Array Value) (ds : List (DataW H)) (p : List MemPlace)
    (hval0 : ∀ (j : Nat) t v, Try.f9.params[j]? = some t → args[j]? = some v → Value.okWide Try.prog W .any base t v)
    (hA : DataW.TrodAll enc Try.prog W 0 (fun _ => true) true Try.f9.params.toList args.toList ds p) (_ : W.noneFrozen p)
    (hsz : (DataW.weightsEach Try.prog Try.f9.params.toList ds).all (· ≤ reachBytes) = true) :
    Calls Try.prog 9 args W fun e W' => e = .returned (.bool true) ∧ Below W.heap.size W W' := by
  have hval : ∀ (j : Nat) t v, Try.f9.params[j]? = some t → args[j]? = some v → Value.okWide Try.prog W .any base t v := hval0
  clear hval0
  rw [Try.params9] at hA hval hsz
  obtain ⟨v0, vs0, d0, ds0, p0, q0, hargs, rfl, rfl, h0, r'0⟩ := trodAll_cons hA
  obtain ⟨v1, vs1, d1, ds1, p1, q1, rfl, rfl, rfl, h1, r'1⟩ := trodAll_cons r'0
  obtain ⟨v2, vs2, d2, ds2, p2, q2, rfl, rfl, rfl, h2, r'2⟩ := trodAll_cons r'1
  obtain ⟨rfl, rfl, rfl⟩ := trodAll_nil r'2
  obtain rfl : args = #[v0, v1, v2] := by cases args; simp_all
  obtain ⟨A0, n0, c0, z0, rfl, l0, b0, m0, s0, r0, w0⟩ := open_slice_ints (j := 0) (bytes := 8) Try.underlying56 Try.underlying51 cells51 (by kernel_rfl) (hval 0 56 v0 rfl rfl) h0 hsz rfl rfl
  obtain ⟨A1, n1, c1, z1, rfl, l1, b1, m1, s1, r1, w1⟩ := open_slice_ints (j := 1) (bytes := 8) Try.underlying56 Try.underlying51 cells51 (by kernel_rfl) (hval 1 56 v1 rfl rfl) h1 hsz rfl rfl
  obtain ⟨A2, n2, c2, z2, rfl, l2, b2, m2, s2, r2, w2⟩ := open_slice_ints (j := 2) (bytes := 8) Try.underlying23 Try.underlying3 cells3 (by kernel_rfl) (hval 2 23 v2 rfl rfl) h2 hsz rfl rfl
  exact walk (W := W) A0 n0 c0 z0 l0 b0 m0 s0 r0 w0 A1 n1 c1 z1 l1 b1 m1 s1 r1 w1 A2 n2 c2 z2 l2 b2 m2 s2 r2 w2
set_option maxRecDepth 100000 in
theorem lifted (os : Os) (started : os.Started) (H : Type) (enc : TypeId × Value → H) :
    ReturnsInHanded {} Try.checked os 9 .any (Rows.schedStoresSpec.pre6 enc Try.prog Try.f9 Rows.schedStoresRow.domain false) (Rows.schedStoresSpec.post enc Try.prog Try.f9 false true false false) :=
  law_lifted (C := Try.checked) (s := Rows.schedStoresSpec) (b := 4) own (by kernel_rfl) Try.func9 (by kernel_rfl) (by kernel_rfl) rfl Try.underlying4 rfl
    (fun ds h => by match ds, h with | [_, _, _], _ => rfl) calls os started
    (ChangeSpec.witness6 (enc := enc) (C := Try.checked) false ⟨#[], #[.slice none 0 0, .slice none 0 0, .slice none 0 0], []⟩ 8 (by kernel_rfl) (by kernel_rfl) (by kernel_rfl) (by kernel_rfl))
/-- ████ THE STATEMENT ████ -/
theorem proved : Rows.SchedStoresSaid :=
  OpenClaim.holds_of_wide 9 Try.f9 rfl rfl rfl rfl rfl rfl rfl ⟨rfl, rfl, rfl, rfl, rfl⟩ rfl rfl rfl rfl rfl (by kernel_rfl) Try.func9 (by kernel_rfl)
    (of_decide_eq_true (by kernel_rfl)) (by unfold Func.isWrapper; first | (rw [if_pos (by decide +kernel)]; kernel_rfl) | (rw [if_neg (by decide +kernel)]; exact ⟨rfl, rfl⟩))
    (fun os started H enc _ => lifted os started H enc)
#print axioms proved
end Go.Proofs.Ythnaogfcffmphaa.schedStores
