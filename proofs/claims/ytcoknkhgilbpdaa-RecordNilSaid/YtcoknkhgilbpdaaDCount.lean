/-
  DEVICE: Lines, Size, isWord, admit, count.
-/
import Derived.Test.YtcoknkhgilbpdaaDThread
set_option linter.unusedVariables false
set_option linter.unusedSimpArgs false
namespace Go.Proofs.Ytcoknkhgilbpdaa.Dev
open Go.ChangeShapes Go.WideShapes Go.ChangeAt Go.RowKit Go.Proofs.Ytcoknkhgilbpdaa.Mem
theorem DB.c0 {w : World} {A : Adr} {S : St} (h : DB w A S) : w.cell? ⟨A.d, 0, none⟩ = some (.slice (some ⟨A.lb, 0, none⟩) S.n A.cap) := by
  have := h.cell (o := 0) (by omega)
  simpa [devG] using this
theorem DB.cOff {w : World} {A : Adr} {S : St} (h : DB w A S) : w.cell? ⟨A.d, 34, none⟩ = some (.bool S.off) := by
  rw [h.cell (o := 34) (by omega)]; rfl
theorem DB.cPtr {w : World} {A : Adr} {S : St} (h : DB w A S) {t : Nat} (ht : t < 8) : w.cell? ⟨A.d, 1 + t * 4, none⟩ = some (.pointer (some ⟨A.d, 0, none⟩)) := by
  rw [h.cell (o := 1 + t * 4) (by omega), devG_ptr _ _ ht]
theorem lines_any (w : World) (A : Adr) (S : St) (h : DB w A S) :
    Calls Try.prog 105 #[.pointer (some ⟨A.d, 0, none⟩)] w fun r w' => r = .returned (.int .i64 (S.n : Int)) ∧ w' = w := by
  have c0 := h.c0
  clear h
  go_enter Try.func105, Try.ntmps105
  go_wp2
  go_ret
  exact ⟨rfl, rfl⟩
theorem lines_nil (w : World) : Calls Try.prog 105 #[.pointer none] w fun r w' => r = .returned (.int .i64 0) ∧ w' = w := by
  go_enter Try.func105, Try.ntmps105
  go_wp2
  go_ret
  exact ⟨rfl, rfl⟩
theorem size_any (w : World) (A : Adr) (S : St) (h : DB w A S) (hn : S.n ≤ 4096) :
    Calls Try.prog 102 #[.pointer (some ⟨A.d, 0, none⟩)] w fun r w' => r = .returned (.int .u64 ((S.n * 64 : Nat) : Int)) ∧ w' = w := by
  have HL := Lib.hid (lines_any w A S h)
  obtain ⟨n, hnn⟩ : ∃ n, S.n = n := ⟨_, rfl⟩
  rw [hnn] at hn HL ⊢
  clear h hnn
  go_enter Try.func102, Try.ntmps102
  go_wp2_with (go_at_call 105; refine HL.out.mono ?_; rintro e w' ⟨rfl, rfl⟩)
  go_ret
  exact ⟨ret_int (by simp), rfl⟩
theorem size_nil (w : World) : Calls Try.prog 102 #[.pointer none] w fun r w' => r = .returned (.int .u64 0) ∧ w' = w := by
  go_enter Try.func102, Try.ntmps102
  go_wp2_with (go_at_call 105; refine (lines_nil w).mono ?_; rintro e w' ⟨rfl, rfl⟩)
  go_ret
  exact ⟨rfl, rfl⟩
theorem tsize_any (w : World) (A : Adr) (S : St) (t : Nat) (h : DB w A S) (ht : t < 8) (hn : S.n ≤ 4096) :
    Calls Try.prog 94 #[.pointer (some ⟨A.d, 1 + t * 4, none⟩)] w fun r w' => r = .returned (.int .u64 ((S.n * 64 : Nat) : Int)) ∧ w' = w := by
  have HL := Lib.hid (size_any w A S h hn)
  have c := h.cPtr ht
  generalize ((S.n * 64 : Nat) : Int) = n at *
  clear h
  go_enter Try.func94, Try.ntmps94
  go_wp2_with (go_at_call 102; refine HL.out.mono ?_; rintro e w' ⟨rfl, rfl⟩)
  go_ret
  exact ⟨rfl, rfl⟩
theorem isWord_any (w : World) (A : Adr) (S : St) (t o : Nat) (h : DB w A S) (ht : t < 8) (hn : S.n ≤ 4096) (ho : o < 18446744073709551616) :
    Calls Try.prog 78 #[.pointer (some ⟨A.d, 1 + t * 4, none⟩), .int .u64 (o : Int)] w fun r w' => r = .returned (.bool (S.isW o)) ∧ w' = w := by
  have HL := Lib.hid (tsize_any w A S t h ht hn)
  obtain ⟨z, hz⟩ : ∃ z, S.n * 64 = z := ⟨_, rfl⟩
  have HE : Hid (S.isW o = (decide (o % 8 = 0) && decide (o < z))) := by rw [← hz]; rfl
  rw [hz] at HL
  clear hz h
  by_cases h8 : o % 8 = 0
  · have hb : (((o : Int) % 8) == 0) = true := by simp; omega
    have hb2 : (((o : Int).tmod 8) == 0) = true := by rw [Int.tmod_eq_emod_of_nonneg (by omega)]; exact hb
    go_enter Try.func78, Try.ntmps78
    go_wp2_with (go_at_call 94; refine HL.out.mono ?_; rintro e w' ⟨rfl, rfl⟩)
    go_ret
    exact ⟨ret_bool (by rw [HE.out, decide_eq_true h8, Bool.true_and]), rfl⟩
  · have hb : (((o : Int) % 8) == 0) = false := by simp; omega
    have hb2 : (((o : Int).tmod 8) == 0) = false := by rw [Int.tmod_eq_emod_of_nonneg (by omega)]; exact hb
    go_enter Try.func78, Try.ntmps78
    go_wp2_with (go_at_call 94; refine HL.out.mono ?_; rintro e w' ⟨rfl, rfl⟩)
    go_ret
    exact ⟨ret_bool (by rw [HE.out, decide_eq_false h8, Bool.false_and]), rfl⟩
theorem admit_any (w : World) (A : Adr) (S : St) (t : Nat) (v : Bool) (h : DB w A S) (ht : t < 8) :
    Calls Try.prog 91 #[.pointer (some ⟨A.d, 1 + t * 4, none⟩), .bool v] w fun r w' => r = .returned (.bool (S.may v)) ∧ Hid (DB w' A (S.mayS t v) ∧ Only (fun b => b = A.d) w w') := by
  have cp := h.cPtr ht
  have co := h.cOff
  have HD := Lib.hid h
  have HF := fun e he => Lib.hid (fail_any w A S t e h ht he)
  have HF3 := HF 3 (by omega)
  have HF2 := HF 2 (by omega)
  clear h HF
  by_cases h1 : S.off = true
  · have HE : Hid (S.may v = false ∧ S.mayS t v = S.setErr t 3) := by simp [Hid, St.may, St.mayS, h1]
    rw [h1] at co
    clear h1
    go_enter Try.func91, Try.ntmps91
    go_wp2_with (go_at_call 93; refine HF3.out.mono ?_; rintro e w' ⟨rfl, HQ⟩)
    go_ret
    exact ⟨ret_bool HE.out.1.symm, Lib.hid (by rw [HE.out.2]; exact HQ.out)⟩
  · rw [show S.off = false by simpa using h1] at co
    cases v
    · have HE : Hid (S.may false = false ∧ S.mayS t false = S.setErr t 2) := by simp [Hid, St.may, St.mayS, h1]
      clear h1
      go_enter Try.func91, Try.ntmps91
      go_wp2_with (go_at_call 93; refine HF2.out.mono ?_; rintro e w' ⟨rfl, HQ⟩)
      go_ret
      exact ⟨ret_bool HE.out.1.symm, Lib.hid (by rw [HE.out.2]; exact HQ.out)⟩
    · have HE : Hid (S.may true = true ∧ S.mayS t true = S) := by simp [Hid, St.may, St.mayS, h1]
      clear h1
      go_enter Try.func91, Try.ntmps91
      go_wp2_with (go_at_call 93; refine HF2.out.mono ?_; rintro e w' ⟨rfl, HQ⟩)
      go_ret
      exact ⟨ret_bool HE.out.1.symm, Lib.hid (by rw [HE.out.2]; exact ⟨HD.out, Only.refl _ _⟩)⟩
theorem count_any (w : World) (A : Adr) (S : St) (t : Nat) (v : Bool) (h : DB w A S) (ht : t < 8) (hx : S.ex ≤ 4294967295) (hm : ∀ m, S.left = some m → m ≤ 9223372036854775807) :
    Calls Try.prog 77 #[.pointer (some ⟨A.d, 1 + t * 4, none⟩), .bool v] w fun r w' => r = .returned (.bool (S.cnt v)) ∧ Hid (DB w' A (S.cntS t v) ∧ Only (fun b => b = A.d) w w') := by
  have HA := Lib.hid (admit_any w A S t v h ht)
  by_cases h1 : S.may v = true
  · have h2 : S.off = false ∧ v = true := by simpa [St.may] using h1
    obtain ⟨hoff, rfl⟩ := h2
    have HT := Lib.hid (show S.mayS t true = S by simp [St.mayS, hoff])
    have hx2 := Lib.hid hx
    have hm2 := Lib.hid hm
    rw [h1] at HA
    have HE : Hid (S.cnt true = !S.dead ∧ S.cntS t true = if S.dead then S.tk.setErr t 3 else S.tk) := by simp [Hid, St.cnt, St.cntS, hoff]
    clear h h1 hoff hx hm
    cases hd : S.dead
    · have HD2 := Lib.hid hd
      clear hd
      go_enter Try.func77, Try.ntmps77
      go_wp2_with (first
        | (go_at_call 91; refine HA.out.mono ?_; rintro e w1 ⟨rfl, HQ⟩; rw [HT.out] at HQ; have cp := HQ.out.1.cPtr ht)
        | (go_at_call 92; refine (tick_any _ A S HQ.out.1 hx2.out hm2.out).mono ?_; rintro e w2 ⟨he, HR⟩; rw [HD2.out] at he; simp only [Bool.not_false] at he; subst he))
      go_ret
      exact ⟨ret_bool (by rw [HE.out.1, HD2.out]; rfl), Lib.hid ⟨by rw [HE.out.2, HD2.out]; exact HR.out.1, HQ.out.2.trans HR.out.2⟩⟩
    · have HD2 := Lib.hid hd
      clear hd
      go_enter Try.func77, Try.ntmps77
      go_wp2_with (first
        | (go_at_call 91; refine HA.out.mono ?_; rintro e w1 ⟨rfl, HQ⟩; rw [HT.out] at HQ; have cp := HQ.out.1.cPtr ht)
        | (go_at_call 92; refine (tick_any _ A S HQ.out.1 hx2.out hm2.out).mono ?_; rintro e w2 ⟨he, HR⟩; rw [HD2.out] at he; simp only [Bool.not_true] at he; subst he)
        | (go_at_call 93; refine (fail_any _ A S.tk t 3 HR.out.1 ht (by omega)).mono ?_; rintro e w3 ⟨rfl, HZ⟩))
      go_ret
      exact ⟨ret_bool (by rw [HE.out.1, HD2.out]; rfl), Lib.hid ⟨by rw [HE.out.2, HD2.out]; exact HZ.out.1, (HQ.out.2.trans HR.out.2).trans HZ.out.2⟩⟩
  · have h1' : S.may v = false := by simpa using h1
    have HE : Hid (S.cnt v = false ∧ S.cntS t v = S.mayS t v) := by
      unfold Hid St.cnt St.cntS St.mayS
      unfold St.may at h1'
      cases hoff : S.off <;> cases v <;> simp_all
    rw [h1'] at HA
    clear h h1 h1' hx hm
    go_enter Try.func77, Try.ntmps77
    go_wp2_with (go_at_call 91; refine HA.out.mono ?_; rintro e w1 ⟨rfl, HQ⟩)
    go_ret
    exact ⟨ret_bool HE.out.1.symm, Lib.hid (by rw [HE.out.2]; exact HQ.out)⟩
end Go.Proofs.Ytcoknkhgilbpdaa.Dev
