/-
  DEVICE: Flush at a thread without notes; Flush.
-/
import Derived.Test.YtmipodnfkilcfaaDFlush
set_option linter.unusedVariables false
set_option linter.unusedSimpArgs false
namespace Go.Proofs.Ytmipodnfkilcfaa.Dev
open Go.ChangeShapes Go.WideShapes Go.ChangeAt Go.RowKit Go.Proofs.Ytmipodnfkilcfaa.Mem
set_option maxRecDepth 100000 in
set_option maxHeartbeats 2000000 in
/-- The last statement of Flush, at a thread that has none: from the world w on. -/
theorem flush_new (w : World) (base M : Nat) (A : Adr) (S : St) (t o : Nat) (h : IsDev w base A S) (hS : S.Ok M) (hM : M ≤ 1000000) (ht : t < 8) (ho : o < 18446744073709551616) (hc : S.cnt (S.flushV o) = true) (hS' : (S.cntS t true).Ok M) (hm : A.mv t = none) (hbw : base ≤ w.heap.size) :
    Calls Try.prog 39 #[.pointer (some ⟨A.d, 1 + t * 4, none⟩), .int .u64 (o : Int)] w fun r w' => r = .returned (.tuple #[]) ∧ Hid (Step w w' base A S (S.flushS t o)) := by
  have hv : S.flushV o = true := by simp [St.cnt] at hc; exact hc.1.2
  have hkn := St.flushV_lt hv
  have HSz := Lib.hid (tsize_any w A S t h.db ht hS.n1)
  have HC := Lib.hid (count_any w A S t true h.db ht (by have := hS.ex; omega) hS.left)
  have HD := Lib.hid h
  have hn := hS.n1
  have hexM := hS.ex
  have HS2 := Lib.hid hS'
  have hlt : ((o : Int) < ((S.n * 64 : Nat) : Int)) := by simp [St.flushV] at hv; omega
  generalize ((S.n * 64 : Nat) : Int) = z at *
  have HE : Hid (S.flushS t o = (S.cntS t true).note t (o / 64) (S.gone (o / 64) + (S.hist (o / 64)).length)) := by simp only [Hid, St.flushS]; rw [if_pos hc, hv]
  rw [hv] at hc
  have HX := Lib.hid hc
  rw [hc] at HC
  obtain ⟨k, hkk⟩ : ∃ k, o / 64 = k := ⟨_, rfl⟩
  rw [hkk] at hkn HE
  have hd : (o : Int) / 64 = (k : Int) := by omega
  have hdt : (o : Int).tdiv 64 = (k : Int) := by rw [Int.tdiv_eq_ediv_of_nonneg (by omega)]; exact hd
  have hkw : IntKind.i64.wrap (k : Int) = (k : Int) := IntWalk.i64_in _ ⟨by omega, by omega⟩
  have hkw2 : IntKind.u64.wrap (k : Int) = (k : Int) := IntWalk.u64_in _ ⟨by omega, by omega⟩
  have HK := Lib.hid hkk
  have HM := Lib.hid hm
  have qT : ∀ (w : World) (r : Option Nat), (binOp .eql 49 (.map r) (.map none)).run Try.prog w = .ok (.bool r.isNone) w := fun w r => run_eql_map_nil w _ _ _ r Try.underlying49
  have hld := h.dev.lt
  clear h hS hS' hv hc hkk hm
  have hmm := @run_makeMap Try.prog
  go_enter Try.func39, Try.ntmps39
  go_wp2_with (first
    | (go_at_call 33; refine HSz.out.mono ?_; rintro e w' ⟨rfl, hw⟩; have hw2 := hw.symm; clear hw; subst hw2)
    | (go_at_call 48; refine HC.out.mono ?_; rintro e w1 ⟨rfl, HQ⟩; have cp := HQ.out.1.cPtr ht; have c0 := HQ.out.1.c0; rw [St.cntS_n] at c0; have cm := HQ.out.1.cell (o := 1 + t * 4 + 3) (by omega); rw [devG_map _ _ ht, HM.out] at cm; have HI0 := Lib.hid (HD.out.ctl HQ.out.1 HQ.out.2 (SameData.cntS S t true)); have zm := HQ.out.1.frozen (1 + t * 4 + 3); have hld1 := HQ.out.1.lt))
  obtain ⟨w2, hw2⟩ : ∃ w2, w2 = (w1.setCell ⟨A.d, 1 + t * 4 + 3, none⟩ (.map (some w1.heap.size))).alloc (.map #[] 0) := ⟨_, rfl⟩
  rw [← hw2]
  rw [← World.setCell_alloc_past _ _ _ _ hld1] at hw2
  have hnt : S.notes t = [] := by
    rcases HD.out.maps t ht with h | ⟨b, h1, _⟩
    · exact h.2
    · rw [HM.out] at h1; cases h1
  have I1 := HI0.out.newMap (Nat.le_trans hbw HQ.out.2.size) ht (by rw [(SameData.cntS S t true).notes]; exact hnt)
  rw [← hw2] at I1
  have O1 : Only (A.foot S.n) w w2 := by rw [hw2]; exact ((HQ.out.2.mono fun b hb => .inl hb).alloc _).set _ _ (.inl (.inl rfl))
  obtain ⟨mb, hmb⟩ : ∃ mb, w1.heap.size = mb := ⟨_, rfl⟩
  obtain ⟨A2, hA2⟩ : ∃ A2 : Adr, A2 = { A with mv := fun u => if u = t then some w1.heap.size else A.mv u } := ⟨_, rfl⟩
  rw [← hA2] at I1
  have hfoot : ∀ c, A2.foot S.n c → A.foot S.n c ∨ w.heap.size ≤ c := by rw [hA2]; exact foot_mv HQ.out.2.size
  have eA1 : A2.d = A.d := by rw [hA2]
  have eA2 : A2.lb = A.lb := by rw [hA2]
  have eA3 : A2.cap = A.cap := by rw [hA2]
  have hmv : A2.mv t = some mb := by rw [hA2, hmb]; simp
  have HI1 := Lib.hid I1
  have HMV := Lib.hid hmv
  have cp2 := I1.db.cPtr ht
  have c02 := I1.db.c0
  have cm2 := I1.db.cell (o := 1 + t * 4 + 3) (by omega)
  rw [devG_map _ _ ht, hmv] at cm2
  rw [St.cntS_n, eA2, eA3] at c02
  rw [eA1] at cp2 c02 cm2
  have hMA : MapAt w2 mb 0 [] := by
    rw [hw2, ← hmb]
    refine (MapAt.new w1 0).of_block ?_
    rw [heap_setCell_other]
    show w1.heap.size ≠ A.d
    omega
  have HEA1 := Lib.hid eA1
  have HEA2 := Lib.hid eA2
  have HWM := Lib.hid (show w.heap.size ≤ mb by rw [← hmb]; exact HQ.out.2.size)
  have HO1 := Lib.hid O1
  have HFT := Lib.hid hfoot
  have HHV := Lib.hid (show A2.hv = A.hv by rw [hA2])
  clear cp c0 cm zm hw2 I1 O1 hA2 hfoot eA1 eA2 hmv hmb
  have ch := HI1.out.lines.cell (o := k * 18 + 16) (by rw [St.cntS_n]; omega)
  have cg := HI1.out.lines.cell (o := k * 18 + 17) (by rw [St.cntS_n]; omega)
  rw [linesG_hist] at ch
  rw [linesG_gone] at cg
  rw [HEA2.out] at ch cg
  obtain ⟨a, c, hhv⟩ := hist_slice (HI1.out.hist k (by rw [St.cntS_n]; exact hkn))
  rw [hhv] at ch
  have hsum := HS2.out.sum k
  have HEnd := fun w' => Lib.hid (end_any A.lb (k * 18) ((S.cntS t true).hist k).length c ((S.cntS t true).gone k) a w')
  generalize hPos : (S.cntS t true).gone k + ((S.cntS t true).hist k).length = pos at *
  obtain ⟨n0, D, hn0, hown, hD1, hD2⟩ := hMA
  have hup : ∀ j, ∃ w', (Instr.mapUpdate 49 (.map (some mb)) (.int .i64 (k : Int)) (.int .u64 (pos : Int))).run Try.prog (w2.drewN j) = .ok () w' ∧ w'.ownsMap Try.prog 3 (plainElem Try.prog 34) mb (n0 + 1) (D.put (.int .i64 (k : Int)) (.lit (.int .u64 (pos : Int)))) ∧ (w2.drewN j).grownBy w' (some mb) := fun j =>
    World.ownsMap.update (w := w2.drewN j) hown keyInt Try.underlying49 (by unfold maxLen; omega) (Go.Maps.keyOf_int_mk Try.underlying3 (wf_nat (by omega))) (plainElem_int Try.underlying34 (wf_natu (by omega)))
  obtain ⟨f, hf⟩ := Classical.skolem.1 hup
  have hrun := fun j => (hf j).1
  have hexx : (S.cntS t true).ex = S.ex + 1 := by
    have := HX.out
    simp only [St.cnt, Bool.and_true, Bool.and_eq_true, Bool.not_eq_true'] at this
    simp [St.cntS, this.1, this.2, St.tk, St.tickS]
  have HFIN : Hid (∀ j, Step w (f j) base A S ((S.cntS t true).note t k ((S.cntS t true).gone k + ((S.cntS t true).hist k).length))) := fun j => by
    refine ⟨A2, HEA1.out, HEA2.out, ?_, ?_, HFT.out⟩
    · rw [hPos]
      refine (HI1.out.below (below_drewN _ _ j) (Nat.le_refl _)).mapped ht HMV.out (Only.ofGrown (hf j).2.2 fun c hc => .inl (Option.some.inj hc).symm) ?_
      rw [(SameData.cntS S t true).notes, hexx, hnt]
      have := MapAt.put hn0 hown.isMap hD1 hD2 k pos (hf j).2.1
      exact this.mono (by omega)
    · refine (HO1.out.drewN j).trans' (G := fun c => c = mb) (Only.ofGrown (hf j).2.2 fun c hc => .inl (Option.some.inj hc).symm) fun b hb => .inr ?_
      rw [hb]; exact HWM.out
  clear hhv hf hup hown hD1 hD2 hn0 hexx hPos hnt
  go_region_with ((first
    | (go_at_call 50; refine (lineOf_at A S _ (by exact c02) o k ho HK.out hkn hn).mono ?_; rintro e w2 ⟨rfl, rfl⟩)
    | (go_at_call 64; refine ((HEnd _).out (by exact ch) (by exact cg) (by omega)).mono ?_; rintro e w3 ⟨rfl, j, rfl⟩)))
  all_goals
    go_end0
    refine ⟨rfl, Lib.hid ?_⟩
    rw [HE.out]
    have hs := SameData.cntS S t true
    have := HFIN.out
    rw [hs.gone, hs.hist] at this
    exact this _
theorem flush_no (w : World) (base M : Nat) (A : Adr) (S : St) (t o : Nat) (h : IsDev w base A S) (hS : S.Ok M) (hM : M ≤ 1000000) (ht : t < 8) (ho : o < 18446744073709551616) (hc : S.cnt (S.flushV o) = false) :
    Calls Try.prog 39 #[.pointer (some ⟨A.d, 1 + t * 4, none⟩), .int .u64 (o : Int)] w fun r w' => r = .returned (.tuple #[]) ∧ Hid (Step w w' base A S (S.flushS t o)) := by
  have HSz := Lib.hid (tsize_any w A S t h.db ht hS.n1)
  have HC := Lib.hid (count_any w A S t (S.flushV o) h.db ht (by have := hS.ex; omega) hS.left)
  have HD := Lib.hid h
  have HE : Hid (S.flushS t o = S.cntS t (S.flushV o)) := by simp only [Hid, St.flushS]; rw [hc]; rfl
  rw [hc] at HC
  have hv : S.flushV o = decide (o < S.n * 64) := rfl
  obtain ⟨z, hz⟩ : ∃ z, S.n * 64 = z := ⟨_, rfl⟩
  rw [hz] at HSz hv
  generalize S.flushV o = v at *
  clear h hS hc hz
  by_cases hlt : o < z
  · rw [decide_eq_true hlt] at hv
    subst hv
    have hl2 : (o : Int) < (z : Int) := by omega
    go_enter Try.func39, Try.ntmps39
    go_wp2_with (first
      | (go_at_call 33; refine HSz.out.mono ?_; rintro e w' ⟨rfl, hw⟩; have hw2 := hw.symm; clear hw; subst hw2)
      | (go_at_call 48; refine HC.out.mono ?_; rintro e w1 ⟨rfl, HQ⟩))
    try simp only [Exit.inBlock, Exit.then]
    refine bodyPost_ret (results_none rfl _ _ _) rfl ?_
    refine ⟨rfl, Lib.hid ?_⟩
    rw [HE.out]
    exact HD.out.ctlStep HQ.out.1 HQ.out.2 (SameData.cntS S t _)
  · rw [decide_eq_false hlt] at hv
    subst hv
    have hl2 : ¬ (o : Int) < (z : Int) := by omega
    go_enter Try.func39, Try.ntmps39
    go_wp2_with (first
      | (go_at_call 33; refine HSz.out.mono ?_; rintro e w' ⟨rfl, hw⟩; have hw2 := hw.symm; clear hw; subst hw2)
      | (go_at_call 48; refine HC.out.mono ?_; rintro e w1 ⟨rfl, HQ⟩))
    try simp only [Exit.inBlock, Exit.then]
    refine bodyPost_ret (results_none rfl _ _ _) rfl ?_
    refine ⟨rfl, Lib.hid ?_⟩
    rw [HE.out]
    exact HD.out.ctlStep HQ.out.1 HQ.out.2 (SameData.cntS S t _)
theorem flush_any (w : World) (base M : Nat) (A : Adr) (S : St) (t o : Nat) (h : IsDev w base A S) (hS : S.Ok M) (hM : M ≤ 1000000) (ht : t < 8) (ho : o < 18446744073709551616) (hS' : (S.cntS t (S.flushV o)).Ok M) :
    Calls Try.prog 39 #[.pointer (some ⟨A.d, 1 + t * 4, none⟩), .int .u64 (o : Int)] w fun r w' => r = .returned (.tuple #[]) ∧ Hid (Step w w' base A S (S.flushS t o)) := by
  cases hc : S.cnt (S.flushV o)
  · exact flush_no w base M A S t o h hS hM ht ho hc
  · have hv : S.flushV o = true := by simp [St.cnt] at hc; exact hc.1.2
    rw [hv] at hS'
    cases hm : A.mv t with
    | none => exact flush_new w base M A S t o h hS hM ht ho hc hS' hm (Nat.le_trans h.bd (Nat.le_of_lt h.dev.lt))
    | some mb => exact flush_yes w base M A S t o mb h hS hM ht ho hc hS' hm
end Go.Proofs.Ytmipodnfkilcfaa.Dev
