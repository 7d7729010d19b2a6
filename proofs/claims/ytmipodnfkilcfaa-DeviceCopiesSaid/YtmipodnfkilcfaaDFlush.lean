/-
  DEVICE: Flush.
-/
import Derived.Test.YtmipodnfkilcfaaDMaps
import Derived.Deep.RegionWith
import Derived.Outline
set_option linter.unusedVariables false
set_option linter.unusedSimpArgs false
namespace Go.Proofs.Ytmipodnfkilcfaa.Dev
open Go.ChangeShapes Go.WideShapes Go.ChangeAt Go.RowKit Go.Proofs.Ytmipodnfkilcfaa.Mem
theorem St.flushV_lt {S : St} {o : Nat} (h : S.flushV o = true) : o / 64 < S.n := by
  simp [St.flushV] at h; omega
set_option maxRecDepth 100000 in
set_option maxHeartbeats 2000000 in
/-- The last statement of Flush, at a thread that has a map: from the world w on. -/
theorem flush_yes (w : World) (base M : Nat) (A : Adr) (S : St) (t o mb : Nat) (h : IsDev w base A S) (hS : S.Ok M) (hM : M ≤ 1000000) (ht : t < 8) (ho : o < 18446744073709551616) (hc : S.cnt (S.flushV o) = true) (hS' : (S.cntS t true).Ok M) (hm : A.mv t = some mb) :
    Calls Try.prog 39 #[.pointer (some ⟨A.d, 1 + t * 4, none⟩), .int .u64 (o : Int)] w fun r w' => r = .returned (.tuple #[]) ∧ Hid (Step w w' base A S (S.flushS t o)) := by
  have hv : S.flushV o = true := by simp [St.cnt] at hc; exact hc.1.2
  have hkn := St.flushV_lt hv
  have HSz := Lib.hid (tsize_any w A S t h.db ht hS.n1)
  have HC := Lib.hid (count_any w A S t true h.db ht (by have := hS.ex; omega) hS.left)
  have HD := Lib.hid h
  have hn := hS.n1
  have hexM := hS.ex
  have HS2 := Lib.hid hS'
  have hlt : ((o : Int) < ((S.n * 64 : Nat) : Int)) := by simp [St.flushV] at hv; omega
  generalize ((S.n * 64 : Nat) : Int) = z at *
  have HE : Hid (S.flushS t o = (S.cntS t true).note t (o / 64) (S.gone (o / 64) + (S.hist (o / 64)).length)) := by simp only [Hid, St.flushS]; rw [if_pos hc, hv]
  rw [hv] at hc
  have HX := Lib.hid hc
  rw [hc] at HC
  obtain ⟨k, hkk⟩ : ∃ k, o / 64 = k := ⟨_, rfl⟩
  rw [hkk] at hkn HE
  have hd : (o : Int) / 64 = (k : Int) := by omega
  have hdt : (o : Int).tdiv 64 = (k : Int) := by rw [Int.tdiv_eq_ediv_of_nonneg (by omega)]; exact hd
  have hkw : IntKind.i64.wrap (k : Int) = (k : Int) := IntWalk.i64_in _ ⟨by omega, by omega⟩
  have hkw2 : IntKind.u64.wrap (k : Int) = (k : Int) := IntWalk.u64_in _ ⟨by omega, by omega⟩
  have HK := Lib.hid hkk
  have HM := Lib.hid hm
  have qT : ∀ (w : World) (r : Option Nat), (binOp .eql 49 (.map r) (.map none)).run Try.prog w = .ok (.bool r.isNone) w := fun w r => run_eql_map_nil w _ _ _ r Try.underlying49
  have hld := h.dev.lt
  clear h hS hS' hv hc hkk hm
  go_enter Try.func39, Try.ntmps39
  go_wp2_with (first
    | (go_at_call 33; refine HSz.out.mono ?_; rintro e w' ⟨rfl, hw⟩; have hw2 := hw.symm; clear hw; subst hw2)
    | (go_at_call 48; refine HC.out.mono ?_; rintro e w1 ⟨rfl, HQ⟩; have cp := HQ.out.1.cPtr ht; have c0 := HQ.out.1.c0; rw [St.cntS_n] at c0; have cm := HQ.out.1.cell (o := 1 + t * 4 + 3) (by omega); rw [devG_map _ _ ht, HM.out] at cm; have HI1 := Lib.hid (HD.out.ctl HQ.out.1 HQ.out.2 (SameData.cntS S t true))))
  have ch := HI1.out.lines.cell (o := k * 18 + 16) (by rw [St.cntS_n]; omega)
  have cg := HI1.out.lines.cell (o := k * 18 + 17) (by rw [St.cntS_n]; omega)
  rw [linesG_hist] at ch
  rw [linesG_gone] at cg
  obtain ⟨a, c, hhv⟩ := hist_slice (HI1.out.hist k (by rw [St.cntS_n]; exact hkn))
  rw [hhv] at ch
  have hsum := HS2.out.sum k
  have HEnd := fun w' => Lib.hid (end_any A.lb (k * 18) ((S.cntS t true).hist k).length c ((S.cntS t true).gone k) a w')
  generalize hPos : (S.cntS t true).gone k + ((S.cntS t true).hist k).length = pos at *
  obtain ⟨n0, D, hn0, hown, hD1, hD2⟩ : MapAt w1 mb S.ex (S.notes t) := by
    rcases HD.out.maps t ht with h | ⟨b, h1, _, h3⟩
    · rw [HM.out] at h; cases h.1
    · rw [HM.out] at h1; cases h1
      exact h3.of_block (HQ.out.2.block mb (HD.out.ownLt mb (.inr (.inr (.inr ⟨t, ht, HM.out⟩)))) (fun e => HD.out.apart.md t ht (by rw [HM.out, e])))
  have hex := HS2.out.ex
  have hup : ∀ j, ∃ w', (Instr.mapUpdate 49 (.map (some mb)) (.int .i64 (k : Int)) (.int .u64 (pos : Int))).run Try.prog (w1.drewN j) = .ok () w' ∧ w'.ownsMap Try.prog 3 (plainElem Try.prog 34) mb (n0 + 1) (D.put (.int .i64 (k : Int)) (.lit (.int .u64 (pos : Int)))) ∧ (w1.drewN j).grownBy w' (some mb) := fun j =>
    World.ownsMap.update (w := w1.drewN j) hown keyInt Try.underlying49 (by unfold maxLen; omega) (Go.Maps.keyOf_int_mk Try.underlying3 (wf_nat (by omega))) (plainElem_int Try.underlying34 (wf_natu (by omega)))
  obtain ⟨f, hf⟩ := Classical.skolem.1 hup
  have hrun := fun j => (hf j).1
  have hexx : (S.cntS t true).ex = S.ex + 1 := by
    have := HX.out
    simp only [St.cnt, Bool.and_true, Bool.and_eq_true, Bool.not_eq_true'] at this
    simp [St.cntS, this.1, this.2, St.tk, St.tickS]
  have HFIN : Hid (∀ j, Step w (f j) base A S ((S.cntS t true).note t k ((S.cntS t true).gone k + ((S.cntS t true).hist k).length))) := fun j => by
    refine Step.pre (S1 := S.cntS t true) HQ.out.2 (St.cntS_n S t true) ⟨A, rfl, rfl, ?_, ?_, fun b hb => .inl hb⟩
    · rw [hPos]
      refine (HI1.out.below (below_drewN _ _ j) (Nat.le_refl _)).mapped ht HM.out (Only.ofGrown (hf j).2.2 fun c hc => .inl (Option.some.inj hc).symm) ?_
      rw [(SameData.cntS S t true).notes, hexx]
      exact MapAt.put hn0 hown.isMap hD1 hD2 k pos (hf j).2.1
    · refine ((Only.refl _ _).drewN j).trans (Only.ofGrown (hf j).2.2 fun c hc => .inl (.inr (.inr (.inr ⟨t, ht, ?_⟩))))
      rw [HM.out, ← Option.some.inj hc]
  clear hhv hf hup hown hD1 hD2 hn0 hexx hPos
  go_region_with ((first
    | (go_at_call 50; refine (lineOf_at A S _ (by exact c0) o k ho HK.out hkn hn).mono ?_; rintro e w2 ⟨rfl, rfl⟩)
    | (go_at_call 64; refine ((HEnd _).out (by exact ch) (by exact cg) (by omega)).mono ?_; rintro e w3 ⟨rfl, j, rfl⟩)))
  all_goals
    go_end0
    refine ⟨rfl, Lib.hid ?_⟩
    rw [HE.out]
    have hs := SameData.cntS S t true
    have := HFIN.out
    rw [hs.gone, hs.hist] at this
    exact this _
end Go.Proofs.Ytmipodnfkilcfaa.Dev
