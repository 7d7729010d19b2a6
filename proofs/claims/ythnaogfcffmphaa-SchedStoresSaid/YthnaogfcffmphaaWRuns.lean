/-
  SCHED: Run with writers.
-/
import Derived.Test.YthnaogfcffmphaaWBegin
import Derived.Test.YthnaogfcffmphaaSRuns
set_option linter.unusedVariables false
set_option linter.unusedSimpArgs false
namespace Go.Proofs.Ythnaogfcffmphaa.Sched
open Go.ChangeShapes Go.WideShapes Go.ChangeAt Go.RowKit Go.Proofs.Ythnaogfcffmphaa.Mem Go.Proofs.Ythnaogfcffmphaa.Law Go.Proofs.Ythnaogfcffmphaa.Args Go.Proofs.Ythnaogfcffmphaa.Own Go.Proofs.Ythnaogfcffmphaa.Dev
theorem nd_log : ¬ devTag (some 27) := by unfold devTag; decide
theorem Wr.calm {w w' : World} {base : Nat} {Z : WD} {B : Nat → Nat} {s : X} (h : Wr w base Z B s) (hw : Z.Bv ≤ w.heap.size) (hb : Below w.heap.size w w') : Wr w' base Z B s := by
  refine ⟨h.n, fun i hi => ?_, h.inj, ?_, fun i hi => (h.ints i hi).below (hb.mono hw)⟩
  · obtain ⟨m, h1, h2, h3, h4⟩ := h.objs i hi
    exact ⟨m, h1, h2, h3, h4.below hb h4.lt⟩
  · obtain ⟨Ad, S, h1, h2, h3, h4⟩ := h.dev
    exact ⟨Ad, S, h1, h2.below hb (Nat.le_refl _), h3, h4⟩
structure RunningW (wa wr : World) (A : RA) (Z : WD) (s : X) (r : Nat) (vs ve : Value) : Prop where
  run : IsRunW wr wa.heap.size { A with r := r, vs := vs, ve := ve } Z s
  only : Only (WF Z wa.heap.size A.B) wa wr
set_option maxRecDepth 100000 in
set_option maxHeartbeats 1000000 in
theorem wrun_any (w : World) (A : RA) (Z : WD) (n : Nat) (left : Nat → Option Nat) (Ap : Option Addr) (np cp Bp : Nat) (ps : List Int) (hn2 : n = 2) (hnp : np ≤ 1000) (hl : ps.length = np) (hlf : ∀ i m, left i = some m → m ≤ 9223372036854775807) (h : MsW w A n) (hr : Wr w (w.heap.size + 1) Z A.B (X.init n left)) (wok : WOk Z (w.heap.size + 1) A.B) (hBv : Z.Bv ≤ w.heap.size) (hFD : ∀ b, Z.FD b → b < w.heap.size)
    (hp : Hid (∀ w', Only (WF Z w.heap.size A.B) w w' → IntsAt .i64 w' Bp Ap ps)) (hw63 : Hid (∀ z ∈ ps, (Lit.int .i64 z).wf = true)) :
    Calls Try.prog 13 #[.slice A.ma n A.mc, .slice Ap np cp] w fun e w' => ∃ vs ve, e = .returned (.agg #[vs, ve]) ∧ Hid (OwnInts .i64 3 w' w.heap.size vs ((X.init n left).run ps).steps ∧ OwnInts .i64 3 w' w.heap.size ve ((X.init n left).run ps).ended ∧
      MsW w' A n ∧ Wr w' (w.heap.size + 1) Z A.B ((X.init n left).run ps) ∧ Only (WF Z w.heap.size A.B) w w') := by
  have HN2 := Lib.hid hn2
  have hn : n ≤ 1000000 := by omega
  have WOKH := Lib.hid wok
  have HBV := Lib.hid hBv
  have H := Lib.hid h
  have HL := Lib.hid hl
  have HOK := Lib.hid (X.Ok.init (n := n) hlf)
  have HA : Hid (MsW (w.alloc (.cells #[.slice none 0 0, .slice none 0 0] 27)) A n ∧ Wr (w.alloc (.cells #[.slice none 0 0, .slice none 0 0] 27)) (w.heap.size + 1) Z A.B (X.init n left)) := Lib.hid (by
    have hb := (Below.refl w.heap.size w).alloc (Nat.le_refl _) (.cells #[.slice none 0 0, .slice none 0 0] 27)
    obtain ⟨m, hm, hbk⟩ := h
    exact ⟨⟨m, hm, hbk.below hb hbk.lt⟩, hr.calm hBv hb⟩)
  have HA1 : Hid ((w.alloc (.cells #[.slice none 0 0, .slice none 0 0] 27)).heap.size = w.heap.size + 1) := Lib.hid (by simp)
  have NRF : Hid (w.heap.size ≠ A.B 0 ∧ w.heap.size ≠ A.B 1 ∧ ¬ Z.FD w.heap.size) := Lib.hid (by
    obtain ⟨m0, _, _, _, b0⟩ := hr.objs 0 (by omega)
    obtain ⟨m1, _, _, _, b1⟩ := hr.objs 1 (by omega)
    have := b0.lt
    have := b1.lt
    exact ⟨by omega, by omega, fun f => by have := hFD _ f; omega⟩)
  clear h hl hlf hn2 hr wok hBv hFD
  go_enter Try.func13, Try.ntmps13
  go_wp2_with ((go_at_call 33; refine (wbegin_any _ (w.heap.size + 1) A Z n left HN2.out (Nat.le_of_eq HA1.out.symm) HA.out.1 HA.out.2 WOKH.out).mono ?_; rintro e wb ⟨r, ve, rfl, HB⟩))
  obtain ⟨wa, hwa⟩ : ∃ wa, wa = w.alloc (.cells #[.slice none 0 0, .slice none 0 0] 27) := ⟨_, rfl⟩
  rw [← hwa] at HB HA1
  have HWA := Lib.hid hwa
  have HR0 : Hid (RunningW wa wb A Z ((X.init n left).run (ps.take 0)) r (.slice none 0 0) ve) := Lib.hid ⟨by rw [HA1.out]; exact HB.out.1, Only.ofBelow HB.out.2 _⟩
  have WOKA : Hid (WOk Z wa.heap.size A.B) := Lib.hid (by rw [HA1.out]; exact WOKH.out)
  clear hwa HB
  have hnp63 : np ≤ 9223372036854775807 := by omega
  go_loopw [12] (fun i wr => ∃ k : Nat, k ≤ np ∧ i = .int .i64 k ∧ Hid (∃ vs, RunningW wa wr A Z ((X.init n left).run (ps.take k)) r vs ve)) (fun i _ => np - (intOf i).toNat)
  case atStart => exact ⟨0, by omega, rfl, Lib.hid ⟨_, HR0.out⟩⟩
  case round =>
    obtain ⟨k, hk, rfl, HO⟩ := hrel
    obtain ⟨vs, hR⟩ := HO.out
    have HR := Lib.hid hR
    clear HO hR
    by_cases hkn : k < np
    · have hki : (k : Int) < (np : Int) := by omega
      have hk0 : (0 : Int) ≤ (k : Int) := by omega
      have hkl : k < ps.length := by have := HL.out; omega
      have HT := Lib.hid (X.run_take (s := X.init n left) hkl)
      have hI : IntsAt .i64 wr Bp Ap ps := hp.out wr (by
        have h1 : Only (WF Z w.heap.size A.B) w wa := by rw [HWA.out]; exact (Only.refl _ _).alloc _
        refine h1.trans (HR.out.only.mono fun b hb => ?_)
        rcases hb with hb | hb
        · exact .inl (Nat.le_trans h1.size hb)
        · exact .inr hb)
      obtain ⟨ad, rfl, _, hc⟩ := hI k hkl
      obtain ⟨p, hpp⟩ : ∃ p, ps.getD k 0 = p := ⟨_, rfl⟩
      rw [hpp] at hc HT
      have hpr : -9223372036854775808 ≤ p ∧ p ≤ 9223372036854775807 := by
        have := wf_i64 (wf_at hw63.out hkl)
        rwa [hpp] at this
      obtain ⟨hp1, hp2⟩ := hpr
      have HPP := Lib.hid hpp
      have hnn : ((X.init n left).run (ps.take k)).n = n := X.run_n _ _
      have HNN := Lib.hid hnn
      clear hpp hnn hkl
      have fin : ∀ (w2 : World) vs2, Hid (RunningW wa w2 A Z ((X.init n left).run (ps.take (k + 1))) r vs2 ve) → Hid (∃ vs, RunningW wa w2 A Z ((X.init n left).run (ps.take (k + 1))) r vs ve) := fun w2 vs2 h => Lib.hid ⟨vs2, h.out⟩
      have FIN := Lib.hid fin
      clear fin
      by_cases hp0 : 0 ≤ p
      · rcases Nat.eq_zero_or_pos n with h0 | h0
        · have HS := Lib.hid (pick_none (p := p) (.inr (by rw [HNN.out]; exact h0)))
          have HR2 : Hid (RunningW wa wr A Z ((X.init n left).run (ps.take (k + 1))) r vs ve) := Lib.hid (by rw [HT.out, HS.out]; exact HR.out)
          subst h0
          clear HS HT
          go_wp2
          go_roundw
          case rel => exact ⟨k + 1, by omega, by go_num, FIN.out _ _ HR2⟩
          case measure => simp [intOf]; omega
        · obtain ⟨q, rfl⟩ := Int.eq_ofNat_of_zero_le hp0
          obtain ⟨i, hi⟩ : ∃ i, q % n = i := ⟨_, rfl⟩
          have hin : i < n := by rw [← hi]; exact Nat.mod_lt _ h0
          have hqi : (q : Int) % (n : Int) = (i : Int) := by rw [← hi]; rfl
          have hqt : (q : Int).tmod (n : Int) = (i : Int) := by rw [Int.tmod_eq_emod_of_nonneg (by omega)]; exact hqi
          have HS := Lib.hid (pick_step (s := (X.init n left).run (ps.take k)) rfl HNN.out h0 hi)
          have hni : (0 : Int) < (n : Int) := by omega
          have HC : Hid (Calls Try.prog 34 #[.pointer (some ⟨r, 0, none⟩), .int .i64 (i : Int)] wr fun e w' => e = .returned (.tuple #[]) ∧ ∃ vs', Hid (RunningW wa w' A Z ((X.init n left).run (ps.take (k + 1))) r vs' ve)) := Lib.hid (by
            refine (wrstep_any wr wa.heap.size _ Z _ i np HR.out.run ((HOK.out.run _).more (by rw [List.length_take, HL.out]; omega)) WOKA.out (by omega) (by rw [HNN.out]; exact hin)).mono ?_
            rintro e w' ⟨rfl, vs', HH⟩
            refine ⟨rfl, vs', Lib.hid ⟨by rw [HT.out, HS.out]; exact HH.out.1, ?_⟩⟩
            have := HH.out.2
            exact HR.out.only.trans this)
          clear hi HS HT HPP
          go_wp2_with ((go_at_call 34; refine HC.out.mono ?_; rintro e w2 ⟨rfl, vs2, HR2⟩))
          go_roundw
          case rel => exact ⟨k + 1, by omega, by go_num, FIN.out _ _ HR2⟩
          case measure => simp [intOf]; omega
      · have HS := Lib.hid (pick_none (s := (X.init n left).run (ps.take k)) (p := p) (.inl (by omega)))
        have HR2 : Hid (RunningW wa wr A Z ((X.init n left).run (ps.take (k + 1))) r vs ve) := Lib.hid (by rw [HT.out, HS.out]; exact HR.out)
        have hd : decide (0 ≤ p) = false := by simpa using hp0
        clear HS HT
        go_wp2
        go_roundw
        case rel => exact ⟨k + 1, by omega, by go_num, FIN.out _ _ HR2⟩
        case measure => simp [intOf]; omega
    · have hk2 : k = np := by omega
      subst hk2
      have HT := Lib.hid (List.take_of_length_le (Nat.le_of_eq HL.out))
      rw [HT.out] at HR
      have hws : wa.heap.size = w.heap.size + 1 := HA1.out
      have BLa : Blk wa w.heap.size 27 2 (fun _ => .slice none 0 0) := by
        rw [HWA.out]
        exact Blk.newOf w _ _ rfl (fun o ho => by
          rcases o with _ | _ | o
          · rfl
          · rfl
          · omega)
      have nRF : ¬ WF Z wa.heap.size A.B w.heap.size := fun h => by
        have := NRF.out
        rcases h with h | h | h | h
        · omega
        · exact this.1 h
        · exact this.2.1 h
        · exact this.2.2 h
      have BL : Blk wr w.heap.size 27 2 (fun _ => .slice none 0 0) := HR.out.only.blk BLa nRF
      have hrun := HR.out.run
      have honly := HR.out.only
      obtain ⟨As, cs, es, _⟩ := hrun.steps.form
      obtain ⟨Ae, ce, ee, _⟩ := hrun.ended.form
      have es' : vs = .slice As ((X.init n left).run ps).steps.length cs := es
      have ee' : ve = .slice Ae ((X.init n left).run ps).ended.length ce := ee
      have c1 : wr.cell? ⟨r, 1, none⟩ = some (.slice As ((X.init n left).run ps).steps.length cs) := (hrun.run.cell (o := 1) (by omega)).trans (by rw [← es']; rfl)
      have c2 : wr.cell? ⟨r, 2, none⟩ = some (.slice Ae ((X.init n left).run ps).ended.length ce) := (hrun.run.cell (o := 2) (by omega)).trans (by rw [← ee']; rfl)
      have l0 := BL.cell (o := 0) (by omega)
      have l1 := BL.cell (o := 1) (by omega)
      have f0 := BL.frozen 0
      have f1 := BL.frozen 1
      obtain ⟨v0, hv0⟩ : ∃ v0, v0 = Value.slice As ((X.init n left).run ps).steps.length cs := ⟨_, rfl⟩
      obtain ⟨v1, hv1⟩ : ∃ v1, v1 = Value.slice Ae ((X.init n left).run ps).ended.length ce := ⟨_, rfl⟩
      have hO : Only (· = w.heap.size) wr ((wr.setCell ⟨w.heap.size, 0, none⟩ v0).setCell ⟨w.heap.size, 1, none⟩ v1) := ((Only.refl (· = w.heap.size) wr).set ⟨w.heap.size, 0, none⟩ v0 (.inl rfl)).set ⟨w.heap.size, 1, none⟩ v1 (.inl rfl)
      have HF : Hid (OwnInts .i64 3 ((wr.setCell ⟨w.heap.size, 0, none⟩ v0).setCell ⟨w.heap.size, 1, none⟩ v1) w.heap.size v0 ((X.init n left).run ps).steps ∧ OwnInts .i64 3 ((wr.setCell ⟨w.heap.size, 0, none⟩ v0).setCell ⟨w.heap.size, 1, none⟩ v1) w.heap.size v1 ((X.init n left).run ps).ended ∧
          MsW ((wr.setCell ⟨w.heap.size, 0, none⟩ v0).setCell ⟨w.heap.size, 1, none⟩ v1) A n ∧ Wr ((wr.setCell ⟨w.heap.size, 0, none⟩ v0).setCell ⟨w.heap.size, 1, none⟩ v1) (w.heap.size + 1) Z A.B ((X.init n left).run ps) ∧ Only (WF Z w.heap.size A.B) w ((wr.setCell ⟨w.heap.size, 0, none⟩ v0).setCell ⟨w.heap.size, 1, none⟩ v1)) := Lib.hid (by
        refine ⟨?_, ?_, ?_, ?_, ?_⟩
        · have h1 := own_only hrun.steps hO (fun g hg e => by have := (hrun.steps.lt g hg).1; omega)
          rw [hv0, ← es']
          exact own_base (by rw [hv0, ← es'] at h1; exact h1) (by omega)
        · have h1 := own_only hrun.ended hO (fun g hg e => by have := (hrun.ended.lt g hg).1; omega)
          rw [hv1, ← ee']
          exact own_base (by rw [hv1, ← ee'] at h1; exact h1) (by omega)
        · have h1 := hrun.ms.only hO (fun b hb t => by subst hb; exact (blk_tag BL).ne t (by decide) rfl)
          rw [X.run_n] at h1
          exact h1
        · rw [← HA1.out]
          exact hrun.wr.kept WOKA.out hrun.hw hO (fun b hb t => by subst hb; exact t.ne (blk_tag BL) (by decide) nd_log rfl) (fun b hb => by subst hb; exact HBV.out)
        · have h1 : Only (WF Z w.heap.size A.B) w wa := by rw [HWA.out]; exact (Only.refl _ _).alloc _
          refine (h1.trans (honly.mono fun b hb => ?_)).trans (hO.mono fun b hb => .inl (by omega))
          rcases hb with hb | hb
          · exact .inl (by omega)
          · exact .inr hb)
      have BM := (BL.set 0 v0).set 1 v1
      have m0 := BM.cell (o := 0) (by omega)
      have m1 := BM.cell (o := 1) (by omega)
      rw [upd_other _ _ (by omega), upd_same] at m0
      rw [upd_same] at m1
      rw [hv0, hv1] at HF m0 m1
      clear BM HT hrun honly es ee es' ee' nRF BL BLa hO hv0 hv1 hws
      obtain ⟨ls, hls⟩ : ∃ ls, ((X.init n left).run ps).steps.length = ls := ⟨_, rfl⟩
      obtain ⟨le, hle⟩ : ∃ le, ((X.init n left).run ps).ended.length = le := ⟨_, rfl⟩
      rw [hls] at c1 HF m0 m1
      rw [hle] at c2 HF m0 m1
      clear hls hle
      go_wp2
      exact bodyPost_ret (v := .agg #[.slice As ls cs, .slice Ae le ce]) (by simp [results, Try.results13, go_sem, m0, m1]) rfl ⟨_, _, rfl, HF⟩
end Go.Proofs.Ythnaogfcffmphaa.Sched
