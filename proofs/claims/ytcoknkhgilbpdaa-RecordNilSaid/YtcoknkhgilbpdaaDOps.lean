/-
  DEVICE: Load, Store, CAS of a thread.
-/
import Derived.Test.YtcoknkhgilbpdaaDFrame
set_option linter.unusedVariables false
set_option linter.unusedSimpArgs false
namespace Go.Proofs.Ytcoknkhgilbpdaa.Dev
open Go.ChangeShapes Go.WideShapes Go.ChangeAt Go.RowKit Go.Proofs.Ytcoknkhgilbpdaa.Mem
theorem lineOf_at (A : Adr) (S : St) (w : World) (hc : w.cell? ⟨A.d, 0, none⟩ = some (.slice (some ⟨A.lb, 0, none⟩) S.n A.cap)) (o k : Nat) (ho : o < 18446744073709551616) (hk : o / 64 = k) (hkn : k < S.n) (hn : S.n ≤ 4096) :
    Calls Try.prog 79 #[.pointer (some ⟨A.d, 0, none⟩), .int .u64 (o : Int)] w fun e w' => e = .returned (.pointer (some ⟨A.lb, k * 18, none⟩)) ∧ w' = w :=
  (lineOf_any A.d A.lb S.n k A.cap w hc o ho hk hkn hn).mono fun _ _ h => ⟨h.1, h.2.symm⟩
section
variable {w : World} {base : Nat} {A : Adr} {S : St}
theorem IsDev.cCur (h : IsDev w base A S) {k p : Nat} (hk : k < S.n) (hp : p < 8) : w.cell? ⟨A.lb, k * 18 + 8 + p, none⟩ = some (.int .u64 (S.cur k p : Int)) := by
  rw [h.lines.cell (by omega)]
  unfold linesG
  rw [if_neg (by omega), if_pos (by omega), show (k * 18 + 8 + p) / 18 = k by omega, show (k * 18 + 8 + p) % 18 - 8 = p by omega]
  rfl
theorem linesG_pers (A : Adr) (S : St) (k j : Nat) (hj : j < 8) : linesG A S (k * 18 + j) = wordG (S.pers k) j := by
  unfold linesG
  rw [if_pos (by omega), show (k * 18 + j) / 18 = k by omega, show (k * 18 + j) % 18 = j by omega]
theorem linesG_cur (A : Adr) (S : St) (k j : Nat) (hj : j < 8) : linesG A S (k * 18 + 8 + j) = wordG (S.cur k) j := by
  unfold linesG
  rw [if_neg (by omega), if_pos (by omega), show (k * 18 + 8 + j) / 18 = k by omega, show (k * 18 + 8 + j) % 18 - 8 = j by omega]
theorem linesG_hist (A : Adr) (S : St) (k : Nat) : linesG A S (k * 18 + 16) = A.hv k := by
  unfold linesG
  rw [if_neg (by omega), if_neg (by omega), if_pos (by omega), show (k * 18 + 16) / 18 = k by omega]
theorem linesG_gone (A : Adr) (S : St) (k : Nat) : linesG A S (k * 18 + 17) = .int .u64 (S.gone k : Int) := by
  unfold linesG
  rw [if_neg (by omega), if_neg (by omega), if_neg (by omega), show (k * 18 + 17) / 18 = k by omega]
theorem St.isW_lt {o : Nat} (h : S.isW o = true) : o / 64 < S.n ∧ o % 8 = 0 := by
  simp [St.isW] at h; omega
theorem St.Ok.fine {M : Nat} (h : S.Ok M) (i : Nat) : Fine (S.hist i) := fun p hp => by
  obtain ⟨_, _, h1, h2⟩ := h.hist i p hp
  have := h.n1
  exact ⟨by omega, h2⟩
end
theorem below_drewN (B : Nat) (w : World) (n : Nat) : Below B w (w.drewN n) := ⟨rfl, rfl, rfl, Nat.le_refl _, fun _ _ => rfl⟩
theorem load_any (w : World) (base M : Nat) (A : Adr) (S : St) (t o : Nat) (h : IsDev w base A S) (hS : S.Ok M) (ht : t < 8) (ho : o < 18446744073709551616) :
    Calls Try.prog 127 #[.pointer (some ⟨A.d, 1 + t * 4, none⟩), .int .u64 (o : Int)] w fun r w' => r = .returned (.int .u64 (S.load o : Int)) ∧ Hid (Step w w' base A S (S.loadS t o)) := by
  have HI := Lib.hid (isWord_any w A S t o h.db ht hS.n1 ho)
  have HD := Lib.hid h
  have hn := hS.n1
  clear h
  by_cases hm : S.may (S.isW o) = true
  · have hw : S.isW o = true := by simp [St.may] at hm; exact hm.2
    obtain ⟨hk, h8⟩ := St.isW_lt hw
    have HE : Hid (S.load o = S.cur (o / 64) (o / 8 % 8)) := by simp [Hid, St.load, hm, St.val]
    have HA := fun w1 (e : w1 = w) => Lib.hid (admit_any w1 A S t true (e ▸ HD.out.db) ht)
    rw [hw] at HI
    have HM := Lib.hid (show S.may true = true by rw [hw] at hm; exact hm)
    have HS := Lib.hid (show S.loadS t o = S.mayS t true by unfold St.loadS; rw [hw])
    obtain ⟨k, hkk⟩ : ∃ k, o / 64 = k := ⟨_, rfl⟩
    obtain ⟨p, hp⟩ : ∃ p, o / 8 % 8 = p := ⟨_, rfl⟩
    rw [hkk, hp] at HE
    rw [hkk] at hk
    have hp8 : p < 8 := by omega
    have HK := Lib.hid hkk
    have HP := Lib.hid hp
    have hwp : IntKind.i64.wrap (p : Int) = (p : Int) := IntWalk.i64_in _ ⟨by omega, by omega⟩
    have hwu : IntKind.u64.wrap (p : Int) = (p : Int) := IntWalk.u64_in _ ⟨by omega, by omega⟩
    have hp0 : (0 : Int) ≤ (p : Int) := by omega
    have hp88 : (p : Int) < 8 := by omega
    have HA0 := HA w rfl
    clear hm hw h8 hkk hp HA
    go_enter Try.func127, Try.ntmps127
    go_wp2_with (first
      | (go_at_call 78; refine HI.out.mono ?_; rintro e w' ⟨rfl, rfl⟩)
      | (go_at_call 91; refine HA0.out.mono ?_; rintro e w1 ⟨he, HQ⟩; rw [HM.out] at he; subst he))
    have I1 := HD.out.ctl HQ.out.1 HQ.out.2 (SameData.mayS S t true)
    have HI1 := Lib.hid I1
    have cp := HQ.out.1.cPtr ht
    have c0 := HQ.out.1.c0
    have cc := I1.cCur (k := k) (p := p) (by rw [(SameData.mayS S t true).n]; exact hk) hp8
    rw [(SameData.mayS S t true).n] at c0
    have HX : Hid ((S.mayS t true).cur k p = S.cur k p) := by
      have hs := SameData.mayS S t true
      unfold Hid St.cur; rw [hs.pers, hs.hist]
    rw [HX.out] at cc
    generalize S.cur k p = X at *
    clear I1
    go_quiet ((first | (go_at_call 79; exact Calls.quiet_of_same (lineOf_at A S _ (by exact c0) o k ho HK.out hk hn)) | (go_at_call 95; exact Calls.quiet_of_same (place_at o p _ ho HP.out))))
    go_wp2
    go_ret
    exact ⟨ret_int (by rw [HE.out]), Lib.hid (by rw [HS.out]; exact (HD.out.ctlStep HQ.out.1 HQ.out.2 (SameData.mayS S t true)).then (below_drewN _ _ _))⟩
  · have hm' : S.may (S.isW o) = false := by simpa using hm
    have HE : Hid (S.load o = 0) := by simp [Hid, St.load, hm']
    have HA0 := Lib.hid (admit_any w A S t (S.isW o) HD.out.db ht)
    rw [hm'] at HA0
    clear hm hm'
    generalize hv : S.isW o = v at *
    have HS := Lib.hid (show S.loadS t o = S.mayS t v by unfold St.loadS; rw [hv])
    clear hv
    go_enter Try.func127, Try.ntmps127
    go_wp2_with (first
      | (go_at_call 78; refine HI.out.mono ?_; rintro e w' ⟨rfl, rfl⟩)
      | (go_at_call 91; refine HA0.out.mono ?_; rintro e w1 ⟨rfl, HQ⟩))
    go_ret
    exact ⟨ret_int (by rw [HE.out]; rfl), Lib.hid (by rw [HS.out]; exact HD.out.ctlStep HQ.out.1 HQ.out.2 (SameData.mayS S t v))⟩
theorem St.put_cur (S : St) (o x i : Nat) : (S.put o x).cur i = if i = o / 64 then (fun j => if j = o / 8 % 8 then x else S.cur i j) else S.cur i := by
  unfold St.cur St.put
  simp only
  by_cases h : i = o / 64
  · rw [if_pos h, if_pos h, applyW_snoc]
  · rw [if_neg h, if_neg h]
theorem lineStore_any (w : World) (base M : Nat) (A : Adr) (S : St) (o x k : Nat) (h : IsDev w base A S) (hS : S.Ok M) (hM : M ≤ 1000000) (hw : S.isW o = true) (hk : o / 64 = k) (ho : o < 18446744073709551616) (hb : base ≤ w.heap.size) :
    Calls Try.prog 80 #[.pointer (some ⟨A.lb, k * 18, none⟩), .int .u64 (o : Int), .int .u64 (x : Int)] w fun e w' => e = .returned (.tuple #[]) ∧ Hid (Step w w' base A S (S.put o x)) := by
  obtain ⟨hkn, h8⟩ := St.isW_lt hw
  rw [hk] at hkn
  obtain ⟨p, hp⟩ : ∃ p, o / 8 % 8 = p := ⟨_, rfl⟩
  have hp8 : p < 8 := by omega
  have hsum := hS.sum k
  refine (store_any w A.lb (S.n * 18) (k * 18) o x p base (A.hv k) (S.hist k) (linesG A S) h.lines (by omega) (linesG_hist A S k) (h.hist k hkn) hb (h.apart.hl k hkn) (by omega) ho hp).mono ?_
  rintro e w' ⟨rfl, hv', HQ⟩
  obtain ⟨q1, q2, q3, q4⟩ := HQ.out
  refine ⟨rfl, Lib.hid (h.line hkn rfl rfl rfl rfl rfl rfl (fun i hi => ⟨rfl, ?_, rfl⟩) hv' _ q1 (fun o' ho' => ?_) (fun j hj => ?_) (fun j hj => ?_) ?_ ?_ ?_ q3 ?_)⟩
  · show (if i = o / 64 then _ else _) = _
    rw [if_neg (by omega)]
  · rw [upd_other _ _ (by omega), upd_other _ _ (by omega)]
  · rw [upd_other _ _ (by omega), upd_other _ _ (by omega), linesG_pers _ _ _ _ hj]; rfl
  · rw [upd_other _ _ (by omega), St.put_cur, if_pos hk.symm]
    by_cases e : j = p
    · subst e; rw [upd_same]; show _ = Value.int _ ((if j = o / 8 % 8 then x else S.cur k j : Nat) : Int); rw [if_pos hp.symm]
    · rw [upd_other _ _ (by omega), linesG_cur _ _ _ _ hj]; show _ = Value.int _ ((if j = o / 8 % 8 then x else S.cur k j : Nat) : Int); rw [if_neg (by omega)]; rfl
  · rw [upd_same]
  · rw [upd_other _ _ (by omega), upd_other _ _ (by omega), linesG_gone]; rfl
  · show Hist w' base hv' (if k = o / 64 then _ else _)
    rw [if_pos hk.symm]; exact q2
  · rcases q4 with h1 | ⟨b, h1, h2, _⟩
    · exact .inl h1
    · exact .inr ⟨b, h1, h2⟩
theorem St.cntS_n (S : St) (t : Nat) (v : Bool) : (S.cntS t v).n = S.n := (SameData.cntS S t v).n
theorem Step.pre {w w1 w2 : World} {base : Nat} {A : Adr} {S S1 S2 : St} (ho : Only (fun b => b = A.d) w w1) (hn : S1.n = S.n) (k : Step w1 w2 base A S1 S2) : Step w w2 base A S S2 := by
  obtain ⟨A', b1, b2, b3, b4, b5⟩ := k
  rw [hn] at b4 b5
  refine ⟨A', b1, b2, b3, (ho.mono fun b hb => .inl hb).trans b4, fun b hb => ?_⟩
  rcases b5 b hb with h1 | h1
  · exact .inl h1
  · exact .inr (Nat.le_trans ho.size h1)
theorem store_thread_any (w : World) (base M : Nat) (A : Adr) (S : St) (t o x : Nat) (h : IsDev w base A S) (hS : S.Ok M) (hS' : (S.cntS t (S.isW o)).Ok M) (hM : M ≤ 1000000) (ht : t < 8) (ho : o < 18446744073709551616) (hb : base ≤ w.heap.size) :
    Calls Try.prog 57 #[.pointer (some ⟨A.d, 1 + t * 4, none⟩), .int .u64 (o : Int), .int .u64 (x : Int)] w fun r w' => r = .returned (.tuple #[]) ∧ Hid (Step w w' base A S (S.storeS t o x)) := by
  have HI := Lib.hid (isWord_any w A S t o h.db ht hS.n1 ho)
  have HC := Lib.hid (count_any w A S t (S.isW o) h.db ht (by have := hS.ex; omega) hS.left)
  have HD := Lib.hid h
  have hn := hS.n1
  have HS2 := Lib.hid hS'
  clear h hS hS'
  by_cases hm : S.cnt (S.isW o) = true
  · have hw : S.isW o = true := by simp [St.cnt] at hm; exact hm.1.2
    obtain ⟨hk, h8⟩ := St.isW_lt hw
    have HE : Hid (S.storeS t o x = (S.cntS t true).put o x) := by simp only [Hid, St.storeS]; rw [if_pos hm, hw]
    rw [hm, hw] at HC
    rw [hw] at HI HS2
    obtain ⟨k, hkk⟩ : ∃ k, o / 64 = k := ⟨_, rfl⟩
    rw [hkk] at hk
    have HK := Lib.hid hkk
    have HW := Lib.hid (show (S.cntS t true).isW o = true by unfold St.isW; rw [St.cntS_n]; exact hw)
    clear hm hw h8 hkk
    go_enter Try.func57, Try.ntmps57
    go_wp2_with (first
      | (go_at_call 78; refine HI.out.mono ?_; rintro e w' ⟨rfl, rfl⟩)
      | (go_at_call 77; refine HC.out.mono ?_; rintro e w1 ⟨rfl, HQ⟩; have cp := HQ.out.1.cPtr ht; have c0 := HQ.out.1.c0; rw [St.cntS_n] at c0; have HI1 := Lib.hid (HD.out.ctl HQ.out.1 HQ.out.2 (SameData.cntS S t true)))
      | (go_at_call 79; refine (lineOf_at A S _ c0 o k ho HK.out hk hn).mono ?_; rintro e w2 ⟨rfl, rfl⟩)
      | (go_at_call 80; refine (lineStore_any _ base M A (S.cntS t true) o x k HI1.out HS2.out hM HW.out HK.out ho (by have := HQ.out.2.size; omega)).mono ?_; rintro e w3 ⟨rfl, HR⟩))
    go_end0
    refine ⟨rfl, Lib.hid ?_⟩
    rw [HE.out]
    exact Step.pre HQ.out.2 (St.cntS_n _ _ _) HR.out
  · have hm' : S.cnt (S.isW o) = false := by simpa using hm
    have HE : Hid (S.storeS t o x = S.cntS t (S.isW o)) := by simp only [Hid, St.storeS]; rw [if_neg hm]
    rw [hm'] at HC
    clear hm hm'
    generalize S.isW o = v at *
    go_enter Try.func57, Try.ntmps57
    go_wp2_with (first
      | (go_at_call 78; refine HI.out.mono ?_; rintro e w' ⟨rfl, rfl⟩)
      | (go_at_call 77; refine HC.out.mono ?_; rintro e w1 ⟨rfl, HQ⟩))
    go_end0
    exact ⟨rfl, Lib.hid (by rw [HE.out]; exact HD.out.ctlStep HQ.out.1 HQ.out.2 (SameData.cntS S t v))⟩
end Go.Proofs.Ytcoknkhgilbpdaa.Dev
