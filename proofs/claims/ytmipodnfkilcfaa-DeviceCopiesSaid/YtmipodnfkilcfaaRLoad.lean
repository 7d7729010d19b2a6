/-
  THE REFERENCE's DEVICE: Load, Store, CAS.
-/
import Derived.Test.YtmipodnfkilcfaaRPut
set_option linter.unusedVariables false
set_option linter.unusedSimpArgs false
namespace Go.Proofs.Ytmipodnfkilcfaa.Dev
open Go.ChangeShapes Go.WideShapes Go.ChangeAt Go.RowKit Go.Proofs.Ytmipodnfkilcfaa.Mem Go.Proofs.Ytmipodnfkilcfaa.Args Go.Proofs.Ytmipodnfkilcfaa.Own
theorem RStep.pre1 {w0 w w' : World} {base : Nat} {A : RAdr} {S' : St} (ho : Only (fun b => b = A.d) w0 w) (h : RStep w w' base A S') : RStep w0 w' base A S' := h.pre (ho.mono fun b hb => .inl hb)
theorem val_same {S S' : St} (h : SameData S S') (o : Nat) : S'.val o = S.val o := by
  unfold St.val St.cur; rw [h.pers, h.hist]
theorem isW_same {S S' : St} (h : SameData S S') (o : Nat) : S'.isW o = S.isW o := by
  unfold St.isW; rw [h.n]
theorem St.Ok.may {S : St} {M : Nat} (h : S.Ok M) (t : Nat) (v : Bool) : (S.mayS t v).Ok M := by
  have hs : ∀ e, e ≤ 3 → (S.setErr t e).Ok M := fun e he => ⟨h.n0, h.n1, h.pers, h.hist, h.sum, h.ex, fun u => by
    show (if _ then _ else _) ≤ 3
    split
    · exact he
    · exact h.err u, h.left, h.note, h.keys, h.cnt⟩
  unfold St.mayS
  split
  · exact hs 3 (by omega)
  · split
    · exact h
    · exact hs 2 (by omega)
theorem rload_any (w : World) (base M : Nat) (A : RAdr) (S : St) (t o : Nat) (h : IsRef w base A S) (hS : S.Ok M) (hM : M ≤ 1000000) (ht : t < 8) (ho : o < 18446744073709551616) :
    Calls Try.prog 35 #[.pointer (some ⟨A.d, 0, none⟩), .int .i64 (t : Int), .int .u64 (o : Int)] w fun r w' => r = .returned (.int .u64 (S.load o : Int)) ∧ Hid (RStep w w' base A (S.loadS t o)) := by
  have HI := Lib.hid (ris_any w A S o h.dev hS.n1 ho)
  have HA := Lib.hid (rmay_any w A S t (S.isW o) h.dev ht)
  have HD := Lib.hid h
  have HS := Lib.hid (hS.may t (S.isW o))
  by_cases hm : S.may (S.isW o) = true
  · have hw : S.isW o = true := by simp [St.may] at hm; exact hm.2
    have HE : Hid (S.load o = S.val o) := by simp [Hid, St.load, hm]
    have HW := Lib.hid (show (S.mayS t (S.isW o)).isW o = true by rw [isW_same (SameData.mayS S t _)]; exact hw)
    rw [hm] at HA
    clear h hS hm
    have HLS := Lib.hid (show S.loadS t o = S.mayS t (S.isW o) from rfl)
    rw [hw] at HI HA HS HW HLS
    clear hw
    go_enter Try.func35, Try.ntmps35
    go_wp2_with (first
      | (go_at_call 60; refine HI.out.mono ?_; rintro e w' ⟨rfl, hw⟩; have hw2 := hw.symm; clear hw; subst hw2)
      | (go_at_call 59; refine HA.out.mono ?_; rintro e w1 ⟨rfl, HQ⟩; have HI1 := Lib.hid (HD.out.ctl HQ.out.1 HQ.out.2 (SameData.mayS S t true)))
      | (go_at_call 61; refine (rvalue_any _ base M A (S.mayS t true) o HI1.out HS.out hM HW.out ho).mono ?_; rintro e w2 ⟨he, hb⟩; rw [val_same (SameData.mayS S t true)] at he; subst he; have HB := Lib.hid hb; clear hb))
    go_ret
    exact ⟨ret_int (by rw [HE.out]), Lib.hid (by rw [HLS.out]; exact (HD.out.ctlStep HQ.out.1 HQ.out.2 (SameData.mayS S t true)).then HB.out)⟩
  · have hm' : S.may (S.isW o) = false := by simpa using hm
    have HE : Hid (S.load o = 0) := by simp [Hid, St.load, hm']
    rw [hm'] at HA
    have HLS := Lib.hid (show S.loadS t o = S.mayS t (S.isW o) from rfl)
    clear h hS hm hm'
    generalize S.isW o = v at *
    go_enter Try.func35, Try.ntmps35
    go_wp2_with (first
      | (go_at_call 60; refine HI.out.mono ?_; rintro e w' ⟨rfl, hw⟩; have hw2 := hw.symm; clear hw; subst hw2)
      | (go_at_call 59; refine HA.out.mono ?_; rintro e w1 ⟨rfl, HQ⟩))
    go_ret
    exact ⟨ret_int (by rw [HE.out]; rfl), Lib.hid (by rw [HLS.out]; exact HD.out.ctlStep HQ.out.1 HQ.out.2 (SameData.mayS S t v))⟩
theorem rstore_any (w : World) (base M : Nat) (A : RAdr) (S : St) (t o x : Nat) (h : IsRef w base A S) (hS : S.Ok M) (hS' : (S.cntS t (S.isW o)).Ok M) (hM : M ≤ 1000000) (ht : t < 8) (ho : o < 18446744073709551616) :
    Calls Try.prog 36 #[.pointer (some ⟨A.d, 0, none⟩), .int .i64 (t : Int), .int .u64 (o : Int), .int .u64 (x : Int)] w fun r w' => r = .returned (.tuple #[]) ∧ Hid (RStep w w' base A (S.storeS t o x)) := by
  have HI := Lib.hid (ris_any w A S o h.dev hS.n1 ho)
  have HC := Lib.hid (rcounted_any w A S t (S.isW o) h.dev ht (by have := hS.ex; omega) hS.left)
  have HD := Lib.hid h
  have HS2 := Lib.hid hS'
  clear h hS hS'
  by_cases hm : S.cnt (S.isW o) = true
  · have hw : S.isW o = true := by simp [St.cnt] at hm; exact hm.1.2
    have HE : Hid (S.storeS t o x = (S.cntS t true).put o x) := by simp only [Hid, St.storeS]; rw [if_pos hm, hw]
    rw [hm, hw] at HC
    rw [hw] at HI HS2
    have HW := Lib.hid (show (S.cntS t true).isW o = true by rw [isW_same (SameData.cntS S t _)]; exact hw)
    clear hm hw
    go_enter Try.func36, Try.ntmps36
    go_wp2_with (first
      | (go_at_call 60; refine HI.out.mono ?_; rintro e w' ⟨rfl, hw⟩; have hw2 := hw.symm; clear hw; subst hw2)
      | (go_at_call 62; refine HC.out.mono ?_; rintro e w1 ⟨rfl, HQ⟩; have HI1 := Lib.hid (HD.out.ctl HQ.out.1 HQ.out.2 (SameData.cntS S t true)))
      | (go_at_call 63; refine (rput_any _ base M A (S.cntS t true) o x HI1.out HS2.out hM HW.out ho).mono ?_; rintro e w2 ⟨rfl, HR⟩))
    go_end0
    exact ⟨rfl, Lib.hid (by rw [HE.out]; exact RStep.pre1 HQ.out.2 HR.out)⟩
  · have hm' : S.cnt (S.isW o) = false := by simpa using hm
    have HE : Hid (S.storeS t o x = S.cntS t (S.isW o)) := by simp only [Hid, St.storeS]; rw [if_neg hm]
    rw [hm'] at HC
    clear hm hm'
    generalize S.isW o = v at *
    go_enter Try.func36, Try.ntmps36
    go_wp2_with (first
      | (go_at_call 60; refine HI.out.mono ?_; rintro e w' ⟨rfl, hw⟩; have hw2 := hw.symm; clear hw; subst hw2)
      | (go_at_call 62; refine HC.out.mono ?_; rintro e w1 ⟨rfl, HQ⟩))
    go_end0
    exact ⟨rfl, Lib.hid (by rw [HE.out]; exact HD.out.ctlStep HQ.out.1 HQ.out.2 (SameData.cntS S t v))⟩
set_option maxRecDepth 100000 in
theorem rcas_any (w : World) (base M : Nat) (A : RAdr) (S : St) (t o old x : Nat) (h : IsRef w base A S) (hS : S.Ok M) (hS' : (S.cntS t (S.isW o)).Ok M) (hM : M ≤ 1000000) (ht : t < 8) (ho : o < 18446744073709551616) :
    Calls Try.prog 38 #[.pointer (some ⟨A.d, 0, none⟩), .int .i64 (t : Int), .int .u64 (o : Int), .int .u64 (old : Int), .int .u64 (x : Int)] w fun r w' => r = .returned (.bool (S.cas o old)) ∧ Hid (RStep w w' base A (S.casS t o old x)) := by
  have HI := Lib.hid (ris_any w A S o h.dev hS.n1 ho)
  have HC := Lib.hid (rcounted_any w A S t (S.isW o) h.dev ht (by have := hS.ex; omega) hS.left)
  have HD := Lib.hid h
  have HS2 := Lib.hid hS'
  clear h hS hS'
  by_cases hm : S.cnt (S.isW o) = true
  · have hw : S.isW o = true := by simp [St.cnt] at hm; exact hm.1.2
    rw [hw] at HI HS2
    have HW := Lib.hid (show (S.cntS t true).isW o = true by rw [isW_same (SameData.cntS S t _)]; exact hw)
    have HVL := Lib.hid (val_same (SameData.cntS S t true) o)
    by_cases hv : S.val o = old
    · have HE : Hid (S.cas o old = true ∧ S.casS t o old x = (S.cntS t true).put o x) := by
        have : S.cas o old = true := by simp [St.cas, hm, hv]
        refine ⟨this, ?_⟩
        simp only [St.casS]; rw [if_pos this, hw]
      rw [hm, hw] at HC
      have HV := Lib.hid hv
      have hne : ((old : Int) != (old : Int)) = false := by simp
      clear hm hw hv
      go_enter Try.func38, Try.ntmps38
      go_wp2_with (first
        | (go_at_call 60; refine HI.out.mono ?_; rintro e w' ⟨rfl, hw⟩; have hw2 := hw.symm; clear hw; subst hw2)
        | (go_at_call 62; refine HC.out.mono ?_; rintro e w1 ⟨rfl, HQ⟩; have HI1 := Lib.hid (HD.out.ctl HQ.out.1 HQ.out.2 (SameData.cntS S t true)))
        | (go_at_call 61; refine (rvalue_any _ base M A (S.cntS t true) o HI1.out HS2.out hM HW.out ho).mono ?_; rintro e w2 ⟨he, hb⟩; rw [HVL.out, HV.out] at he; subst he; have HB := Lib.hid hb; clear hb; have HI2 := Lib.hid (HI1.out.below HB.out (Nat.le_refl _)))
        | (go_at_call 63; refine (rput_any _ base M A (S.cntS t true) o x HI2.out HS2.out hM HW.out ho).mono ?_; rintro e w3 ⟨rfl, HR⟩))
      go_ret
      exact ⟨ret_bool HE.out.1.symm, Lib.hid (by rw [HE.out.2]; exact RStep.pre ((HQ.out.2.mono fun b hb => .inl hb).trans (Only.ofBelow HB.out _)) HR.out)⟩
    · have HE : Hid (S.cas o old = false ∧ S.casS t o old x = S.cntS t true) := by
        have : S.cas o old = false := by simp [St.cas, hv]
        refine ⟨this, ?_⟩
        simp only [St.casS]; rw [this, hw]; rfl
      rw [hm, hw] at HC
      have hne : ((S.val o : Int) != (old : Int)) = true := by simp; omega
      clear hm hw hv
      generalize hX : S.val o = X at *
      have HX := Lib.hid hX
      clear hX
      go_enter Try.func38, Try.ntmps38
      go_wp2_with (first
        | (go_at_call 60; refine HI.out.mono ?_; rintro e w' ⟨rfl, hw⟩; have hw2 := hw.symm; clear hw; subst hw2)
        | (go_at_call 62; refine HC.out.mono ?_; rintro e w1 ⟨rfl, HQ⟩; have HI1 := Lib.hid (HD.out.ctl HQ.out.1 HQ.out.2 (SameData.cntS S t true)))
        | (go_at_call 61; refine (rvalue_any _ base M A (S.cntS t true) o HI1.out HS2.out hM HW.out ho).mono ?_; rintro e w2 ⟨he, hb⟩; rw [HVL.out] at he; subst he; have HB := Lib.hid hb; clear hb))
      go_ret
      exact ⟨ret_bool HE.out.1.symm, Lib.hid (by rw [HE.out.2]; exact (HD.out.ctlStep HQ.out.1 HQ.out.2 (SameData.cntS S t true)).then HB.out)⟩
  · have hm' : S.cnt (S.isW o) = false := by simpa using hm
    have HE : Hid (S.cas o old = false ∧ S.casS t o old x = S.cntS t (S.isW o)) := by
      have : S.cas o old = false := by simp only [St.cas]; rw [hm']; rfl
      refine ⟨this, ?_⟩
      simp only [St.casS]; rw [this]; rfl
    rw [hm'] at HC
    clear hm hm'
    generalize S.isW o = v at *
    go_enter Try.func38, Try.ntmps38
    go_wp2_with (first
      | (go_at_call 60; refine HI.out.mono ?_; rintro e w' ⟨rfl, hw⟩; have hw2 := hw.symm; clear hw; subst hw2)
      | (go_at_call 62; refine HC.out.mono ?_; rintro e w1 ⟨rfl, HQ⟩))
    go_ret
    exact ⟨ret_bool HE.out.1.symm, Lib.hid (by rw [HE.out.2]; exact HD.out.ctlStep HQ.out.1 HQ.out.2 (SameData.cntS S t v))⟩
end Go.Proofs.Ytmipodnfkilcfaa.Dev
