/-
  SCHED: RoundRobin.
-/
import Derived.Test.YthnaogfcffmphaaSRuns
import Derived.Test.YthnaogfcffmphaaSRstep
import Derived.Test.YthnaogfcffmphaaSRRModel
import Derived.Deep.DeepMust
import Derived.BigRegion
set_option linter.unusedVariables false
set_option linter.unusedSimpArgs false
namespace Go.Proofs.Ythnaogfcffmphaa.Sched
open Go.ChangeShapes Go.WideShapes Go.ChangeAt Go.RowKit Go.Proofs.Ythnaogfcffmphaa.Mem Go.Proofs.Ythnaogfcffmphaa.Law Go.Proofs.Ythnaogfcffmphaa.Args Go.Proofs.Ythnaogfcffmphaa.Own
structure RRInv (s0 s : X) (T : Nat) : Prop where
  bounded : s.Bounded T
  small : ∀ i m, s.left i = some m → m ≤ 9223372036854775807
  n : s.n = s0.n
  some_ : ∀ i, (s.left i).isSome = (s0.left i).isSome
theorem RRInv.ok {s0 s : X} {T : Nat} (h : RRInv s0 s T) : s.Ok T := ⟨h.bounded.len, h.small, by have := h.bounded.tot; omega⟩
theorem RRInv.step {s0 s : X} {T : Nat} (h : RRInv s0 s T) {i : Nat} (hi : i < s.n) : RRInv s0 (s.step i) T :=
  ⟨h.bounded.step hi, (h.ok.step i).small, (X.step_n s i).trans h.n, fun j => (X.isSome_step s i j).trans (h.some_ j)⟩
theorem RRInv.rf {s0 s : X} {T base : Nat} {A A' : RA} (h : RRInv s0 s T) (hB : A'.B = A.B) : RF base A' s = RF base A s0 := RF_like hB h.n h.some_
/-- At the head of a round. -/
structure RRHead (wa wr : World) (A : RA) (s0 s R : X) (T f r : Nat) (bd : Int) (vs ve : Value) : Prop where
  run : Running wa wr A s0 s r vs ve
  inv : RRInv s0 s T
  res : X.rr bd f s = R
  fuel : T < f + s.steps.length
def stepsLen (wr : World) (r : Nat) : Nat := match wr.cell? ⟨r, 1, none⟩ with
  | some (.slice _ n _) => n
  | _ => 0
/-- In a round, before machine k. -/
structure RRIn (wa wr : World) (A : RA) (s0 sh s R : X) (T f k r : Nat) (bd : Int) (vs ve : Value) : Prop where
  run : Running wa wr A s0 s r vs ve
  inv : RRInv s0 s T
  res : X.rr bd f (X.sweep bd (X.from_ s0.n k) s) = R
  fuel : T < f + 1 + sh.steps.length
  moved : X.Moved sh s k
  some_ : sh.running ≠ 0
  n : sh.n = s0.n
theorem RRHead.enter {wa wr : World} {A : RA} {s0 s R : X} {T f r : Nat} {bd : Int} {vs ve : Value} (h : RRHead wa wr A s0 s R T f r bd vs ve) (hr : s.running ≠ 0) : ∃ f', RRIn wa wr A s0 s s R T f' 0 r bd vs ve := by
  have := h.fuel
  have h2 := h.inv.bounded.tot
  obtain ⟨f', rfl⟩ : ∃ f', f = f' + 1 := ⟨f - 1, by omega⟩
  refine ⟨f', h.run, h.inv, ?_, by omega, .inr ⟨rfl, fun i hi => absurd hi (by omega)⟩, hr, h.inv.n⟩
  rw [X.from_zero, ← h.inv.n, ← X.rr_go hr]
  exact h.res
theorem RRIn.leave {wa wr : World} {A : RA} {s0 sh s R : X} {T f r : Nat} {bd : Int} {vs ve : Value} (h : RRIn wa wr A s0 sh s R T f s0.n r bd vs ve) : RRHead wa wr A s0 s R T f r bd vs ve ∧ sh.steps.length < s.steps.length := by
  have hm := X.Moved.all (by rw [h.n]; exact h.moved) h.some_
  have h1 := h.res
  rw [X.from_end] at h1
  exact ⟨⟨h.run, h.inv, h1, by have := h.fuel; omega⟩, hm⟩
theorem RRIn.stop {wa wr : World} {A : RA} {s0 sh s R : X} {T f k r : Nat} {bd : Int} {vs ve : Value} (h : RRIn wa wr A s0 sh s R T f k r bd vs ve) (hb : bd ≤ (s.steps.length : Int)) : s = R := by
  have h1 := h.res
  rw [X.sweep_stop hb, X.rr_stop (.inr hb)] at h1
  exact h1
theorem RRIn.next {wa wr w2 : World} {A : RA} {s0 sh s R : X} {T f k r : Nat} {bd : Int} {vs ve vs' : Value} (h : RRIn wa wr A s0 sh s R T f k r bd vs ve) (hb : ¬ bd ≤ (s.steps.length : Int)) (hk : k < s0.n) (h2 : Running wa w2 A s0 (s.step k) r vs' ve) : RRIn wa w2 A s0 sh (s.step k) R T f (k + 1) r bd vs' ve := by
  refine ⟨h2, h.inv.step (by rw [h.inv.n]; exact hk), ?_, h.fuel, h.moved.step, h.some_, h.n⟩
  have h1 := h.res
  rw [X.from_lt hk, X.sweep_cons hb] at h1
  exact h1
structure RRDone (w w' : World) (A : RA) (s0 R : X) (vs ve : Value) : Prop where
  steps : OwnInts .i64 3 w' w.heap.size vs R.steps
  ended : OwnInts .i64 3 w' w.heap.size ve R.ended
  obj : IsObjs w' A R
  only : Only (RF w.heap.size A s0) w w'
theorem RRDone.drew {w w' : World} {A : RA} {s0 R : X} {vs ve : Value} (h : RRDone w w' A s0 R vs ve) : RRDone w w'.drew A s0 R vs ve := ⟨h.steps, h.ended, ⟨h.obj.ms, h.obj.objs, h.obj.inj⟩, h.only.drew⟩
/-- The result laid in the block that the call has made first. -/
theorem rr_lay {w wa wr : World} {A : RA} {s0 s : X} {r : Nat} {vs ve : Value} (hwa : wa = w.alloc (.cells #[.slice none 0 0, .slice none 0 0] 27)) (h : Running wa wr A s0 s r vs ve) (h0 : IsObjs w A s0) (hn : s.n = s0.n) :
    RRDone w ((wr.setCell ⟨w.heap.size, 0, none⟩ vs).setCell ⟨w.heap.size, 1, none⟩ ve) A s0 s vs ve ∧ Blk wr w.heap.size 27 2 (pairG (.slice none 0 0) (.slice none 0 0)) := by
  have hws : wa.heap.size = w.heap.size + 1 := by rw [hwa]; simp
  have nRF : ¬ RF wa.heap.size A s0 w.heap.size := fun hh => by
    rcases hh with hh | ⟨i, hi, hm, he⟩
    · omega
    · obtain ⟨m, hm⟩ := Option.isSome_iff_exists.1 hm
      have := (h0.objs i hi m hm).lt; omega
  have BL : Blk wr w.heap.size 27 2 (pairG (.slice none 0 0) (.slice none 0 0)) := h.only.blk (by rw [hwa]; exact newPair w _ _ _) nRF
  have hO : Only (· = w.heap.size) wr ((wr.setCell ⟨w.heap.size, 0, none⟩ vs).setCell ⟨w.heap.size, 1, none⟩ ve) := ((Only.refl (· = w.heap.size) wr).set ⟨w.heap.size, 0, none⟩ vs (.inl rfl)).set ⟨w.heap.size, 1, none⟩ ve (.inl rfl)
  refine ⟨⟨?_, ?_, ?_, ?_⟩, BL⟩
  · exact own_base (own_only h.run.steps hO (fun g hg e => by have := (h.run.steps.lt g hg).1; omega)) (by omega)
  · exact own_base (own_only h.run.ended hO (fun g hg e => by have := (h.run.ended.lt g hg).1; omega)) (by omega)
  · have h1 := h.run.obj.kept hO (fun b hb ht => by subst hb; rcases ht with ht | ht <;> exact (blk_tag BL).ne ht (by decide) rfl)
    exact ⟨h1.ms, h1.objs, h1.inj⟩
  · have h1 : Only (RF w.heap.size A s0) w wa := by rw [hwa]; exact (Only.refl _ _).alloc _
    refine (h1.trans (h.only.mono fun b hb => ?_)).trans (hO.mono fun b hb => .inl (by omega))
    rcases hb with hb | hb
    · exact .inl (by omega)
    · exact .inr hb
set_option maxRecDepth 100000 in
set_option maxHeartbeats 2000000 in
theorem robin_any (w : World) (A : RA) (n T : Nat) (left : Nat → Option Nat) (bd : Int) (hn : n ≤ 1000000) (hT : T ≤ 100000) (hb1 : -9223372036854775808 ≤ bd) (hb2 : bd ≤ 9223372036854775807) (hinv : RRInv (X.init n left) (X.init n left) T) (h : IsObjs w A (X.init n left)) :
    Calls Try.prog 17 #[.slice A.ma n A.mc, .int .i64 bd] w fun e w' => ∃ vs ve, e = .returned (.tuple #[.agg #[vs, ve], .bool (decide ((X.rr bd (T + 1) (X.init n left)).running = 0))]) ∧ Hid (RRDone w w' A (X.init n left) (X.rr bd (T + 1) (X.init n left)) vs ve) := by
  have H := Lib.hid h
  have HINV := Lib.hid hinv
  obtain ⟨R, hR⟩ : ∃ R, X.rr bd (T + 1) (X.init n left) = R := ⟨_, rfl⟩
  have HA : Hid (IsObjs (w.alloc (.cells #[.slice none 0 0, .slice none 0 0] 27)) A (X.init n left)) := Lib.hid (by
    have hb := (Below.refl w.heap.size w).alloc (Nat.le_refl _) (.cells #[.slice none 0 0, .slice none 0 0] 27)
    refine ⟨?_, fun i hi m hm => (h.objs i hi m hm).below hb (h.objs i hi m hm).lt, h.inj⟩
    rcases h.ms with h0 | ⟨m, hm, hbk⟩
    · exact .inl h0
    · exact .inr ⟨m, hm, hbk.below hb hbk.lt⟩)
  rw [hR]
  have HBEG : Hid (Calls Try.prog 33 #[.slice A.ma n A.mc] (w.alloc (.cells #[.slice none 0 0, .slice none 0 0] 27)) fun e w' => ∃ r ve, e = .returned (.pointer (some ⟨r, 0, none⟩)) ∧ Hid (IsRun w' (w.alloc (.cells #[.slice none 0 0, .slice none 0 0] 27)).heap.size { A with r := r, vs := .slice none 0 0, ve := ve } (X.init n left) ∧ Below (w.alloc (.cells #[.slice none 0 0, .slice none 0 0] 27)).heap.size (w.alloc (.cells #[.slice none 0 0, .slice none 0 0] 27)) w')) := Lib.hid (begin_any _ A n left hn HA.out)
  obtain ⟨s0, hs0⟩ : ∃ s0, X.init n left = s0 := ⟨_, rfl⟩
  have hs0n : s0.n = n := by rw [← hs0]; rfl
  rw [hs0] at H HINV hR HBEG ⊢
  have HS0 := Lib.hid hs0n
  have HRE := Lib.hid hR
  clear h hinv hR hs0 hs0n HA
  have hn63 : n ≤ 9223372036854775807 := by omega
  go_enter Try.func17, Try.ntmps17
  go_wp2_with ((go_at_call 33; refine HBEG.out.mono ?_; rintro e wb ⟨r, ve, rfl, HB⟩))
  obtain ⟨wa, hwa⟩ : ∃ wa, wa = w.alloc (.cells #[.slice none 0 0, .slice none 0 0] 27) := ⟨_, rfl⟩
  rw [← hwa] at HB
  have HWA := Lib.hid hwa
  have HH0 : Hid (RRHead wa wb A s0 s0 R T (T + 1) r bd (.slice none 0 0) ve) := Lib.hid ⟨⟨HB.out.1, Only.ofBelow HB.out.2 _⟩, HINV.out, HRE.out, by omega⟩
  clear hwa HB HBEG
  go_outline
  go_loopw [10] (fun _ wr => Hid (∃ s f vs, RRHead wa wr A s0 s R T f r bd vs ve)) (fun _ wr => T + 1 - stepsLen wr r)
  case atStart => exact Lib.hid ⟨s0, T + 1, _, HH0.out⟩
  case round =>
    obtain ⟨s, f, vs, hHd⟩ := hrel.out
    have HHD := Lib.hid hHd
    clear hrel hHd
    have hrn := s.running_le
    have hsn : s.n = n := HHD.out.inv.n.trans HS0.out
    rw [hsn] at hrn
    obtain ⟨rn, hrne⟩ : ∃ rn, s.running = rn := ⟨_, rfl⟩
    have HRN := Lib.hid hrne
    have c3 : wr.cell? ⟨r, 3, none⟩ = some (.int .i64 (rn : Int)) := (HHD.out.run.run.run.cell (o := 3) (by omega)).trans (by rw [← hrne]; rfl)
    rw [hrne] at hrn
    have HSN := Lib.hid hsn
    clear hrne hsn
    rcases Nat.eq_zero_or_pos rn with h0 | h0
    · subst h0
      have hsr : s = R := by
        have h1 := HHD.out.res
        rw [X.rr_stop (.inl HRN.out)] at h1
        exact h1
      have HSR := Lib.hid hsr
      obtain ⟨hdone, BL⟩ := rr_lay HWA.out HHD.out.run H.out (HHD.out.inv.n)
      obtain ⟨A1, c1, e1, _⟩ := HHD.out.run.run.steps.form
      obtain ⟨A2, c2, e2, _⟩ := HHD.out.run.run.ended.form
      have e1' : vs = .slice A1 s.steps.length c1 := e1
      have e2' : ve = .slice A2 s.ended.length c2 := e2
      have d1 : wr.cell? ⟨r, 1, none⟩ = some (.slice A1 s.steps.length c1) := (HHD.out.run.run.run.cell (o := 1) (by omega)).trans (by rw [← e1']; rfl)
      have d2 : wr.cell? ⟨r, 2, none⟩ = some (.slice A2 s.ended.length c2) := (HHD.out.run.run.run.cell (o := 2) (by omega)).trans (by rw [← e2']; rfl)
      obtain ⟨ls, hls⟩ : ∃ ls, s.steps.length = ls := ⟨_, rfl⟩
      obtain ⟨le, hle⟩ : ∃ le, s.ended.length = le := ⟨_, rfl⟩
      have l0 := BL.cell (o := 0) (by omega)
      have l1 := BL.cell (o := 1) (by omega)
      have f0 := BL.frozen 0
      have f1 := BL.frozen 1
      rw [hls] at e1' d1
      rw [hle] at e2' d2
      rw [e1', e2'] at hdone
      have HDONE := Lib.hid hdone
      obtain ⟨m0, m1⟩ : ((wr.setCell ⟨w.heap.size, 0, none⟩ (.slice A1 ls c1)).setCell ⟨w.heap.size, 1, none⟩ (.slice A2 le c2)).cell? ⟨w.heap.size, 0, none⟩ = some (.slice A1 ls c1) ∧ ((wr.setCell ⟨w.heap.size, 0, none⟩ (.slice A1 ls c1)).setCell ⟨w.heap.size, 1, none⟩ (.slice A2 le c2)).cell? ⟨w.heap.size, 1, none⟩ = some (.slice A2 le c2) := by
        have BM := (BL.set 0 (.slice A1 ls c1)).set 1 (.slice A2 le c2)
        have m0 := BM.cell (o := 0) (by omega)
        have m1 := BM.cell (o := 1) (by omega)
        rw [upd_other _ _ (by omega), upd_same] at m0
        rw [upd_same] at m1
        exact ⟨m0, m1⟩
      have HOK : Hid (decide (R.running = 0) = true) := Lib.hid (by rw [← hsr, HRN.out]; rfl)
      clear hsr hdone BL hls hle e1 e2 e1' e2'
      go_wp2
      exact bodyPost_ret (v := .tuple #[.agg #[.slice A1 ls c1, .slice A2 le c2], .bool true]) (by simp [results, Try.results17, go_sem, m0, m1]) rfl ⟨_, _, by rw [HOK.out], Lib.hid (by rw [← HSR.out]; exact HDONE.out)⟩
    · have h0i : (0 : Int) < (rn : Int) := by omega
      obtain ⟨f', hIn⟩ := HHD.out.enter (by rw [HRN.out]; omega)
      have HIN0 := Lib.hid hIn
      have HLEN : Hid (stepsLen wr r = s.steps.length) := Lib.hid (by
        unfold stepsLen
        have c1 : wr.cell? ⟨r, 1, none⟩ = some vs := HHD.out.run.run.run.cell (o := 1) (by omega)
        obtain ⟨A9, c9, e9, _⟩ := HHD.out.run.run.steps.form
        have e9' : vs = .slice A9 s.steps.length c9 := e9
        rw [c1, e9'])
      clear hIn
      go_wp2
      obtain ⟨wo, hwo⟩ : ∃ wo : World, wo = wr := ⟨_, rfl⟩
      rw [← hwo] at HIN0 HLEN c3 ⊢
      go_loopw [17] (fun i wx => ∃ k : Nat, k ≤ n ∧ i = .int .i64 (k : Int) ∧ Hid (∃ s2 vs2, RRIn wa wx A s0 s s2 R T f' k r bd vs2 ve)) (fun i _ => n - (intOf i).toNat)
      case atStart => exact ⟨0, by omega, rfl, Lib.hid ⟨s, vs, HIN0.out⟩⟩
      case round =>
        obtain ⟨k, hk, rfl, HO⟩ := hrel
        obtain ⟨s2, vs2, hI⟩ := HO.out
        have HI := Lib.hid hI
        clear HO hI
        have hs2n : s2.n = n := HI.out.inv.n.trans HS0.out
        have hlt : s2.steps.length ≤ T := HI.out.inv.ok.steps
        obtain ⟨A1, c1, e1, _⟩ := HI.out.run.run.steps.form
        obtain ⟨A2, c2, e2, _⟩ := HI.out.run.run.ended.form
        have e1' : vs2 = .slice A1 s2.steps.length c1 := e1
        have e2' : ve = .slice A2 s2.ended.length c2 := e2
        subst e1'
        have d1 : wr.cell? ⟨r, 1, none⟩ = some (.slice A1 s2.steps.length c1) := HI.out.run.run.run.cell (o := 1) (by omega)
        have d2 : wr.cell? ⟨r, 2, none⟩ = some (.slice A2 s2.ended.length c2) := (HI.out.run.run.run.cell (o := 2) (by omega)).trans (by rw [← e2']; rfl)
        obtain ⟨ls, hls⟩ : ∃ ls, s2.steps.length = ls := ⟨_, rfl⟩
        have HLS := Lib.hid hls
        have HS2N := Lib.hid hs2n
        have HVE := Lib.hid e2'
        rw [hls] at d1 hlt HI
        clear e1 e2 e2' hls hs2n
        by_cases hkn : k < n
        · have hki : (k : Int) < (n : Int) := by omega
          by_cases hst : bd ≤ (ls : Int)
          · have hsR : s2 = R := HI.out.stop (by rw [HLS.out]; exact hst)
            obtain ⟨hdone, BL⟩ := rr_lay HWA.out HI.out.run H.out (HI.out.inv.n)
            have l0 := BL.cell (o := 0) (by omega)
            have l1 := BL.cell (o := 1) (by omega)
            have f0 := BL.frozen 0
            have f1 := BL.frozen 1
            obtain ⟨m0, m1⟩ : ((wr.setCell ⟨w.heap.size, 0, none⟩ (.slice A1 ls c1)).setCell ⟨w.heap.size, 1, none⟩ (.slice A2 s2.ended.length c2)).cell? ⟨w.heap.size, 0, none⟩ = some (.slice A1 ls c1) ∧ ((wr.setCell ⟨w.heap.size, 0, none⟩ (.slice A1 ls c1)).setCell ⟨w.heap.size, 1, none⟩ (.slice A2 s2.ended.length c2)).cell? ⟨w.heap.size, 1, none⟩ = some (.slice A2 s2.ended.length c2) := by
              have BM := (BL.set 0 (.slice A1 ls c1)).set 1 (.slice A2 s2.ended.length c2)
              have m0 := BM.cell (o := 0) (by omega)
              have m1 := BM.cell (o := 1) (by omega)
              rw [upd_other _ _ (by omega), upd_same] at m0
              rw [upd_same] at m1
              exact ⟨m0, m1⟩
            rw [HVE.out] at hdone
            have HDONE := Lib.hid hdone
            obtain ⟨r2, hr2⟩ : ∃ r2, s2.running = r2 := ⟨_, rfl⟩
            have d3 : wr.cell? ⟨r, 3, none⟩ = some (.int .i64 (r2 : Int)) := (HI.out.run.run.run.cell (o := 3) (by omega)).trans (by rw [← hr2]; rfl)
            have HOK : Hid ((((r2 : Int) == 0) : Bool) = decide (R.running = 0)) := Lib.hid (by
              rw [← hsR, hr2, Bool.eq_iff_iff]
              simp)
            obtain ⟨le, hle⟩ : ∃ le, s2.ended.length = le := ⟨_, rfl⟩
            rw [hle] at d2 m0 m1 HDONE
            have HSR := Lib.hid hsR
            have hrw : r ≠ w.heap.size := by
              have h1 := HI.out.run.run.hr
              have h2 : wa.heap.size = w.heap.size + 1 := by rw [HWA.out]; simp
              have h3 : wa.heap.size ≤ r := h1
              omega
            have d3s : ((wr.setCell ⟨w.heap.size, 0, none⟩ (.slice A1 ls c1)).setCell ⟨w.heap.size, 1, none⟩ (.slice A2 le c2)).cell? ⟨r, 3, none⟩ = some (.int .i64 (r2 : Int)) := by
              rw [World.cell?_setCell_other _ _ _ _ (fun e => hrw (congrArg Addr.block e).symm), World.cell?_setCell_other _ _ _ _ (fun e => hrw (congrArg Addr.block e).symm)]
              exact d3
            have HRW := Lib.hid hrw
            clear hrw hle hr2 hsR hdone BL
            go_wp2
            go_region
            go_wp2
            exact bodyPost_ret (v := .tuple #[.agg #[.slice A1 ls c1, .slice A2 le c2], .bool ((r2 : Int) == 0)]) (by simp [results, Try.results17, go_sem, m0, m1]) rfl ⟨_, _, by rw [HOK.out], Lib.hid (by rw [← HSR.out]; exact HDONE.out.drew)⟩
          · have HC : Hid (Calls Try.prog 34 #[.pointer (some ⟨r, 0, none⟩), .int .i64 (k : Int)] wr fun e w' => e = .returned (.tuple #[]) ∧ ∃ vs', Hid (RRIn wa w' A s0 s (s2.step k) R T f' (k + 1) r bd vs' ve)) := Lib.hid (by
              refine (rstep_any wr wa.heap.size _ s2 k T HI.out.run.run HI.out.inv.ok (by omega) (by rw [HS2N.out]; exact hkn) (by rw [HS2N.out]; exact hn)).mono ?_
              rintro e w' ⟨rfl, vs', HH⟩
              refine ⟨rfl, vs', Lib.hid (HI.out.next (by rw [HLS.out]; exact hst) (by rw [HS0.out]; exact hkn) ⟨HH.out.1, ?_⟩)⟩
              have := HH.out.2
              rw [RRInv.rf (A := A) (A' := { A with r := r, vs := .slice A1 ls c1, ve := ve }) HI.out.inv rfl] at this
              exact HI.out.run.only.trans this)
            have hbi : (ls : Int) < bd := by omega
            clear hst d2
            go_wp2_with (go_at_call 34; go_must (refine HC.out.mono ?_); rintro e w2 ⟨rfl, vs3, H3⟩)
            go_roundw
            case rel => exact ⟨k + 1, by omega, by go_num, Lib.hid ⟨_, _, H3.out⟩⟩
            case measure => simp [intOf]; omega
        · have hk2 : k = n := by omega
          subst hk2
          have hlv := HI.out
          have hleave : RRHead wa wr A s0 s2 R T f' r bd (.slice A1 ls c1) ve ∧ s.steps.length < s2.steps.length := RRIn.leave (by rw [HS0.out]; exact hlv)
          have HLV := Lib.hid hleave
          have HMEAS : Hid (T + 1 - stepsLen wr r < T + 1 - stepsLen wo r) := Lib.hid (by
            have h1 : stepsLen wr r = ls := by unfold stepsLen; rw [d1]
            have h2 := HLEN.out
            have h3 := hleave.2
            rw [HLS.out] at h3
            rw [h1, h2]; omega)
          clear hlv hleave d1 d2
          go_wp2
          go_roundw
          case rel => exact Lib.hid ⟨_, _, _, HLV.out.1⟩
          case measure => rw [← hwo]; exact HMEAS.out
end Go.Proofs.Ythnaogfcffmphaa.Sched
