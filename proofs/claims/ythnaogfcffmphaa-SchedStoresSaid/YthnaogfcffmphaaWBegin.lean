/-
  SCHED: begin with writers.
-/
import Derived.Test.YthnaogfcffmphaaWRun
import Derived.Test.YthnaogfcffmphaaSBegin
set_option linter.unusedVariables false
set_option linter.unusedSimpArgs false
namespace Go.Proofs.Ythnaogfcffmphaa.Sched
open Go.ChangeShapes Go.WideShapes Go.ChangeAt Go.RowKit Go.Proofs.Ythnaogfcffmphaa.Mem Go.Proofs.Ythnaogfcffmphaa.Law Go.Proofs.Ythnaogfcffmphaa.Args Go.Proofs.Ythnaogfcffmphaa.Own Go.Proofs.Ythnaogfcffmphaa.Dev
set_option maxRecDepth 100000 in
set_option maxHeartbeats 1000000 in
theorem wbegin_any (w : World) (base : Nat) (A : RA) (Z : WD) (n : Nat) (left : Nat → Option Nat) (hn : n = 2) (hbw : base ≤ w.heap.size) (h : MsW w A n) (hr : Wr w base Z A.B (X.init n left)) (wok : WOk Z base A.B) :
    Calls Try.prog 33 #[.slice A.ma n A.mc] w fun e w' => ∃ r ve, e = .returned (.pointer (some ⟨r, 0, none⟩)) ∧ Hid (IsRunW w' base { A with r := r, vs := .slice none 0 0, ve := ve } Z (X.init n left) ∧ Below w.heap.size w w') := by
  obtain ⟨i0, hi, hz0, hz1, hz2⟩ := info_parts infoInt
  have HI := Lib.hid hi
  have HZ0 := Lib.hid hz0
  have HZ1 := Lib.hid hz1
  have HZ2 := Lib.hid hz2
  have H := Lib.hid h
  have HWR := Lib.hid hr
  have WOKH := Lib.hid wok
  have hn3 : n ≤ 1000000 := by omega
  have HN2 := Lib.hid hn
  clear hi hz0 hz1 hz2 h hr wok hn
  go_enter Try.func33, Try.ntmps33
  go_wp2_with (at_make; refine wpList_make_full _ rfl _ _ 23 rfl w.heap.size 3 i0 (.int .i64 0) 1 Try.underlying23 HI.out HZ0.out HZ1.out .i64 .i64 (n : Int) (n : Int) n rfl rfl rfl rfl (by rw [HZ2.out]; omega) (by simp [maxLen]; omega) (Nat.le_refl _) ?_; intro w1 ho1 hg1; have HO1 := Lib.hid ho1; have HG1 := Lib.hid hg1; clear ho1 hg1)
  have HB0 : Hid (Beg w (w1.alloc (.cells #[.slice A.ma n A.mc, .slice none 0 0, .slice (some ⟨w.heap.size, 0, none⟩) n n, .int .i64 0] 77)) A.ma A.mc n w1.heap.size w.heap.size 0 left) := Lib.hid (by
    have hb := (Below.refl w.heap.size w).grown HG1.out (Nat.le_refl _) (fun k hk => by cases hk)
    refine ⟨Blk.newOf w1 _ _ rfl (fun o ho => ?_), hb.size, ?_, hb.alloc hb.size _⟩
    · rcases o with _ | _ | _ | _ | o
      · rfl
      · rfl
      · rfl
      · rfl
      · omega
    · rw [zs1_zero]
      exact (OwnInts.made HO1.out).alloc _)
  obtain ⟨r, hr⟩ : ∃ r, w1.heap.size = r := ⟨_, rfl⟩
  rw [hr] at HB0 ⊢
  obtain ⟨w2, hw2⟩ : ∃ w2, w1.alloc (.cells #[.slice A.ma n A.mc, .slice none 0 0, .slice (some ⟨w.heap.size, 0, none⟩) n n, .int .i64 0] 77) = w2 := ⟨_, rfl⟩
  rw [hw2] at HB0 ⊢
  obtain ⟨g, hg⟩ : ∃ g, w.heap.size = g := ⟨_, rfl⟩
  rw [hg] at HB0 ⊢
  have HGG := Lib.hid hg
  clear hg hr hw2 HO1 HG1
  have hn63 : n ≤ 9223372036854775807 := by omega
  go_loopw [15] (fun i wr => ∃ k : Nat, k ≤ n ∧ i = .int .i64 k ∧ Hid (Beg w wr A.ma A.mc n r g k left)) (fun i _ => n - (intOf i).toNat)
  case atStart => exact ⟨0, by omega, rfl, HB0⟩
  case round =>
    obtain ⟨k, hk, rfl, HR⟩ := hrel
    by_cases hkn : k < n
    · have hki : (k : Int) < (n : Int) := by omega
      have hk0 : (0 : Int) ≤ (k : Int) := by omega
      have hrun := HR.out.run
      obtain ⟨m, hma, cm⟩ : ∃ m, A.ma = some ⟨m, 0, none⟩ ∧ wr.cell? ⟨m, k, none⟩ = some (machW A.B k) := by
        obtain ⟨m, hm, hb⟩ := H.out
        exact ⟨m, hm, (hb.below HR.out.bel hb.lt).cell hkn⟩
      have c2 : wr.cell? ⟨r, 2, none⟩ = some (.slice (some ⟨g, 0, none⟩) n n) := hrun.cell (o := 2) (by omega)
      obtain ⟨ce, ze⟩ := HR.out.ended.cell k (by rw [zs1_len hk]; exact hkn)
      have hgr : g ≠ r := (own_tag HR.out.ended rfl).ne (blk_tag hrun) (by decide)
      have e1 := HR.out.ended.stored (zs1_len hk) k (-1)
      rw [zs1_set hkn] at e1
      have R1 := hrun.setOther (a := ⟨g, k, none⟩) hgr.symm (.int .i64 (-1))
      have B1 := HR.out.bel.setCell (p := ⟨g, k, none⟩) (by have := HGG.out; simp; omega) (.int .i64 (-1))
      have hcl := cnt_le left k
      have hl : (left k).isSome = true := by
        obtain ⟨m', e1, _⟩ := HWR.out.objs k (by have := HN2.out; omega)
        have e2 : left k = some m' := e1
        rw [e2]; rfl
      rw [show machW A.B k = .iface 64 (.pointer (some ⟨A.B k, 0, none⟩)) from rfl] at cm
      have c3 : (wr.setCell ⟨g, k, none⟩ (.int .i64 (-1))).cell? ⟨r, 3, none⟩ = some (.int .i64 (cnt left k : Int)) := R1.cell (o := 3) (by omega)
      have z3 : (wr.setCell ⟨g, k, none⟩ (.int .i64 (-1))).frozen? ⟨r, 3, none⟩ = false := R1.frozen _
      have HC := Lib.hid (cnt_some hl)
      have HN : Hid (Beg w ((wr.setCell ⟨g, k, none⟩ (.int .i64 (-1))).setCell ⟨r, 3, none⟩ (.int .i64 ((cnt left k : Int) + 1))) A.ma A.mc n r g (k + 1) left) := Lib.hid ⟨(R1.set 3 _).ext (fun o ho => by
          rw [HC.out]
          rcases o with _ | _ | _ | _ | o
          · simp [begG, upd]
          · simp [begG, upd]
          · simp [begG, upd]
          · simp [begG, upd]
          · omega), HR.out.hr, own_only e1 ((Only.refl (· = r) _).set _ _ (.inl rfl)) (fun x hx e => hgr ((show g = x by simpa [Value.ownBlock] using hx).trans e)), B1.setCell (p := ⟨r, 3, none⟩) (by have := HR.out.hr; have := HGG.out; simp; omega) _⟩
      have HMA := Lib.hid hma
      clear hrun hl HC R1 B1 e1 hgr hma
      rw [HMA.out] at HN ⊢
      go_wp2
      go_roundw
      case rel => exact ⟨k + 1, by omega, by go_num, HN⟩
      case measure => simp [intOf]; omega
    · have hk2 : k = n := by omega
      subst hk2
      go_wp2
      go_ret
      have hB := HR.out
      have hbg : base ≤ g := by have := HGG.out; omega
      refine ⟨r, .slice (some ⟨g, 0, none⟩) k k, rfl, Lib.hid ⟨⟨?_, Nat.le_trans hbw hB.hr, ?_, ?_, OwnInts.nil_ _ _ _ _, ?_, .inl rfl, Nat.le_trans hbw hB.bel.size⟩, hB.bel⟩⟩
      · refine hB.run.ext fun o ho => ?_
        unfold runG begG
        rw [init_running]
        rfl
      · obtain ⟨m, hm, hb⟩ := H.out
        exact ⟨m, hm, hb.below hB.bel hb.lt⟩
      · exact HWR.out.kept WOKH.out hbw (Only.ofBelow hB.bel (fun _ => False)) (fun _ f => f.elim) (fun _ f => f.elim)
      · have := hB.ended
        rw [zs1_end] at this
        exact own_base this hbw
end Go.Proofs.Ythnaogfcffmphaa.Sched
