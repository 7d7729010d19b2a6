/-
  DEVICE: persist at the device's line; WriteBack.
-/
import Derived.Test.YtmipodnfkilcfaaDMore
set_option linter.unusedVariables false
set_option linter.unusedSimpArgs false
namespace Go.Proofs.Ytmipodnfkilcfaa.Dev
open Go.ChangeShapes Go.WideShapes Go.ChangeAt Go.RowKit Go.Proofs.Ytmipodnfkilcfaa.Mem
theorem St.pst_cur (S : St) (l k : Nat) (hk : k ≤ (S.hist l).length) (i : Nat) : (S.pst l k).cur i = S.cur i := by
  unfold St.cur St.pst
  simp only
  by_cases h : i = l
  · subst h; rw [if_pos rfl, if_pos rfl, ← applyW_append, List.take_append_drop]
  · rw [if_neg h, if_neg h]
/-- What persistTo's and persist's contracts leave, said of the device. -/
theorem IsDev.persisted {w w' : World} {base : Nat} {A : Adr} {S : St} (h : IsDev w base A S) {l k : Nat} (hl : l < S.n) (hk : k ≤ (S.hist l).length) {hv' : Value} {g' : Nat → Value}
    (q1 : Blk w' A.lb 60 (S.n * 18) g') (q2 : ∀ o, o < l * 18 ∨ l * 18 + 18 ≤ o → g' o = linesG A S o) (q3 : ∀ j, j < 8 → g' (l * 18 + j) = wordG (applyW (S.pers l) ((S.hist l).take k)) j)
    (q4 : ∀ j, j < 8 → g' (l * 18 + 8 + j) = linesG A S (l * 18 + 8 + j)) (q5 : g' (l * 18 + 16) = hv') (q6 : g' (l * 18 + 17) = .int .u64 ((S.gone l + k : Nat) : Int)) (q7 : Hist w' base hv' ((S.hist l).drop k))
    (q8 : Only (fun b => b = A.lb ∨ (A.hv l).ownBlock = some b) w w') (q9 : hv'.ownBlock = (A.hv l).ownBlock) : Step w w' base A S (S.pst l k) := by
  refine h.line hl rfl rfl rfl rfl rfl rfl (fun i hi => ⟨if_neg hi, if_neg hi, if_neg hi⟩) hv' g' q1 q2 (fun j hj => ?_) (fun j hj => ?_) q5 ?_ ?_ q8 (.inl q9)
  · rw [q3 j hj]; unfold St.pst; simp only [if_true]
  · rw [q4 j hj, linesG_cur _ _ _ _ hj, St.pst_cur _ _ _ hk]
  · rw [q6]; unfold St.pst; simp only [if_true]
  · unfold St.pst; simp only [if_true]; exact q7
/-- What persistTo's and persist's contracts leave, said of the device. -/
theorem IsDev.persistedI {w w' : World} {base : Nat} {A : Adr} {S : St} (h : IsDev w base A S) {l k : Nat} (hl : l < S.n) (hk : k ≤ (S.hist l).length) {hv' : Value} {g' : Nat → Value}
    (q1 : Blk w' A.lb 60 (S.n * 18) g') (q2 : ∀ o, o < l * 18 ∨ l * 18 + 18 ≤ o → g' o = linesG A S o) (q3 : ∀ j, j < 8 → g' (l * 18 + j) = wordG (applyW (S.pers l) ((S.hist l).take k)) j)
    (q4 : ∀ j, j < 8 → g' (l * 18 + 8 + j) = linesG A S (l * 18 + 8 + j)) (q5 : g' (l * 18 + 16) = hv') (q6 : g' (l * 18 + 17) = .int .u64 ((S.gone l + k : Nat) : Int)) (q7 : Hist w' base hv' ((S.hist l).drop k))
    (q8 : Only (fun b => b = A.lb ∨ (A.hv l).ownBlock = some b) w w') (q9 : hv'.ownBlock = (A.hv l).ownBlock) : IsDev w' base { A with hv := fun i => if i = l then hv' else A.hv i } (S.pst l k) := by
  refine h.lineI (S' := S.pst l k) hl rfl rfl rfl rfl rfl rfl (fun i hi => ⟨if_neg hi, if_neg hi, if_neg hi⟩) hv' g' q1 q2 (fun j hj => ?_) (fun j hj => ?_) q5 ?_ ?_ q8 (.inl q9)
  · rw [q3 j hj]; unfold St.pst; simp only [if_true]
  · rw [q4 j hj, linesG_cur _ _ _ _ hj, St.pst_cur _ _ _ hk]
  · rw [q6]; unfold St.pst; simp only [if_true]
  · unfold St.pst; simp only [if_true]; exact q7
theorem linePersist_any (w : World) (base M : Nat) (A : Adr) (S : St) (l k : Nat) (h : IsDev w base A S) (hS : S.Ok M) (hM : M ≤ 1000000) (hl : l < S.n) (hk : k ≤ (S.hist l).length) :
    Calls Try.prog 67 #[.pointer (some ⟨A.lb, l * 18, none⟩), .int .i64 (k : Int)] w fun e w' => e = .returned (.tuple #[]) ∧ Hid (Step w w' base A S (S.pst l k)) := by
  have hsum := hS.sum l
  refine (persist_any w A.lb (S.n * 18) (l * 18) k (S.gone l) base (A.hv l) (S.pers l) (S.hist l) (linesG A S) h.lines (by omega) (fun j hj => linesG_pers _ _ _ _ hj) (linesG_hist _ _ _) (linesG_gone _ _ _) (h.hist l hl) (h.apart.hl l hl) hk (hS.fine l) (by omega)).mono ?_
  rintro e w' ⟨rfl, hv', g', HQ⟩
  obtain ⟨q1, q2, q3, q4, q5, q6, q7, q8, q9⟩ := HQ.out
  exact ⟨rfl, Lib.hid (h.persisted hl hk q1 q2 q3 q4 q5 q6 q7 q8 q9)⟩
theorem linePersistTo_any (w : World) (base M : Nat) (A : Adr) (S : St) (l pos : Nat) (h : IsDev w base A S) (hS : S.Ok M) (hM : M ≤ 1000000) (hl : l < S.n) (hk : pos ≤ S.gone l + (S.hist l).length) :
    Calls Try.prog 65 #[.pointer (some ⟨A.lb, l * 18, none⟩), .int .u64 (pos : Int)] w fun e w' => e = .returned (.tuple #[]) ∧ Hid (Step w w' base A S (S.pst l (pos - S.gone l))) := by
  have hsum := hS.sum l
  refine (persistTo_any w A.lb (S.n * 18) (l * 18) pos (S.gone l) base (A.hv l) (S.pers l) (S.hist l) (linesG A S) h.lines (by omega) (fun j hj => linesG_pers _ _ _ _ hj) (linesG_hist _ _ _) (linesG_gone _ _ _) (h.hist l hl) (h.apart.hl l hl) hk (hS.fine l) (by omega)).mono ?_
  rintro e w' ⟨rfl, hv', g', HQ⟩
  obtain ⟨q1, q2, q3, q4, q5, q6, q7, q8, q9⟩ := HQ.out
  exact ⟨rfl, Lib.hid (h.persisted hl (by omega) q1 q2 q3 q4 q5 q6 q7 q8 q9)⟩
/-- The same, and no other block is written. -/
theorem linePersistTo_fine (w : World) (base M : Nat) (A : Adr) (S : St) (l pos : Nat) (h : IsDev w base A S) (hS : S.Ok M) (hM : M ≤ 1000000) (hl : l < S.n) (hk : pos ≤ S.gone l + (S.hist l).length) :
    Calls Try.prog 65 #[.pointer (some ⟨A.lb, l * 18, none⟩), .int .u64 (pos : Int)] w fun e w' => e = .returned (.tuple #[]) ∧ ∃ hv', Hid (IsDev w' base { A with hv := fun i => if i = l then hv' else A.hv i } (S.pst l (pos - S.gone l)) ∧ hv'.ownBlock = (A.hv l).ownBlock ∧ Only (fun b => b = A.lb ∨ (A.hv l).ownBlock = some b) w w') := by
  have hsum := hS.sum l
  refine (persistTo_any w A.lb (S.n * 18) (l * 18) pos (S.gone l) base (A.hv l) (S.pers l) (S.hist l) (linesG A S) h.lines (by omega) (fun j hj => linesG_pers _ _ _ _ hj) (linesG_hist _ _ _) (linesG_gone _ _ _) (h.hist l hl) (h.apart.hl l hl) hk (hS.fine l) (by omega)).mono ?_
  rintro e w' ⟨rfl, hv', g', HQ⟩
  obtain ⟨q1, q2, q3, q4, q5, q6, q7, q8, q9⟩ := HQ.out
  exact ⟨rfl, hv', Lib.hid ⟨h.persistedI hl (by omega) q1 q2 q3 q4 q5 q6 q7 q8 q9, q9, q8⟩⟩
theorem hist_slice {w : World} {base : Nat} {v : Value} {hs : List (Nat × Nat)} (h : Hist w base v hs) : ∃ a c, v = .slice a hs.length c := by
  rcases h.form with ⟨rfl, rfl⟩ | ⟨g, cap, cur, rfl, _⟩
  · exact ⟨_, _, rfl⟩
  · exact ⟨_, _, rfl⟩
set_option maxRecDepth 100000 in
theorem writeBack_any (w : World) (base M : Nat) (A : Adr) (S : St) (l k : Int) (h : IsDev w base A S) (hS : S.Ok M) (hM : M ≤ 1000000) (hk1 : -9223372036854775808 ≤ k) (hk2 : k ≤ 9223372036854775807) :
    Calls Try.prog 43 #[.pointer (some ⟨A.d, 0, none⟩), .int .i64 l, .int .i64 k] w fun r w' => r = .returned (.bool (S.wb l k)) ∧ Hid (Step w w' base A S (S.wbS l k)) := by
  have HD := Lib.hid h
  by_cases hl : 0 ≤ l ∧ l < S.n
  · obtain ⟨l', rfl⟩ := Int.eq_ofNat_of_zero_le hl.1
    have hln : l' < S.n := by omega
    have HL := Lib.hid (lineAt_any w A S l' h.db hln hS.n1)
    have co := h.db.cOff
    have ch := h.lines.cell (o := l' * 18 + 16) (by omega)
    rw [linesG_hist] at ch
    obtain ⟨a, c, hv⟩ := hist_slice (h.hist l' hln)
    rw [hv] at ch
    have hsum := hS.sum l'
    have HS := Lib.hid hS
    have HLN := Lib.hid hln
    have HWB : Hid (S.wb (l' : Int) k = (!S.off && decide (0 ≤ k) && decide (k ≤ ((S.hist l').length : Int)))) := by
      unfold Hid St.wb
      rw [decide_eq_true (show (0 : Int) ≤ (l' : Int) by omega), decide_eq_true (show (l' : Int) < (S.n : Int) by omega)]
      simp
    clear h hv hS hl hln
    by_cases ho : S.off = true
    · have HE : Hid (S.wb (l' : Int) k = false ∧ S.wbS (l' : Int) k = S) := by
        have : S.wb (l' : Int) k = false := by rw [HWB.out, ho]; rfl
        exact ⟨this, by unfold St.wbS; rw [this]; rfl⟩
      rw [ho] at co
      clear ho HWB
      go_enter Try.func43, Try.ntmps43
      go_wp2_with (go_at_call 58; refine HL.out.mono ?_; rintro e w' ⟨rfl, rfl⟩)
      go_ret
      exact ⟨ret_bool HE.out.1.symm, Lib.hid (by rw [HE.out.2]; exact .refl HD.out)⟩
    · have hof : S.off = false := by simpa using ho
      rw [hof] at co
      generalize hlen : (S.hist l').length = n at *
      by_cases hk : 0 ≤ k ∧ k ≤ n
      · obtain ⟨k', rfl⟩ := Int.eq_ofNat_of_zero_le hk.1
        have HE : Hid (S.wb (l' : Int) (k' : Int) = true ∧ S.wbS (l' : Int) (k' : Int) = S.pst l' k') := by
          have : S.wb (l' : Int) (k' : Int) = true := by rw [HWB.out, hof]; simp; omega
          exact ⟨this, by unfold St.wbS; rw [this]; rfl⟩
        have hkn : k' ≤ n := by omega
        have HP := Lib.hid (linePersist_any w base M A S l' k' HD.out HS.out hM HLN.out (by omega))
        clear ho HWB hof hlen hk
        go_enter Try.func43, Try.ntmps43
        go_wp2_with (first
          | (go_at_call 58; refine HL.out.mono ?_; rintro e w' ⟨rfl, rfl⟩)
          | (go_at_call 67; refine HP.out.mono ?_; rintro e w1 ⟨rfl, HQ⟩))
        go_ret
        exact ⟨ret_bool HE.out.1.symm, Lib.hid (by rw [HE.out.2]; exact HQ.out)⟩
      · have HE : Hid (S.wb (l' : Int) k = false ∧ S.wbS (l' : Int) k = S) := by
          have : S.wb (l' : Int) k = false := by rw [HWB.out]; simp; omega
          exact ⟨this, by unfold St.wbS; rw [this]; rfl⟩
        clear ho HWB hof hlen
        by_cases hk0 : k < 0
        · clear hk
          go_enter Try.func43, Try.ntmps43
          go_wp2_with (go_at_call 58; refine HL.out.mono ?_; rintro e w' ⟨rfl, rfl⟩)
          go_ret
          exact ⟨ret_bool HE.out.1.symm, Lib.hid (by rw [HE.out.2]; exact .refl HD.out)⟩
        · have hk3 : (n : Int) < k := by omega
          clear hk
          go_enter Try.func43, Try.ntmps43
          go_wp2_with (go_at_call 58; refine HL.out.mono ?_; rintro e w' ⟨rfl, rfl⟩)
          go_ret
          exact ⟨ret_bool HE.out.1.symm, Lib.hid (by rw [HE.out.2]; exact .refl HD.out)⟩
  · have HL := Lib.hid (lineAt_out w A S l h.db (by omega) hS.n1)
    have HE : Hid (S.wb l k = false ∧ S.wbS l k = S) := by
      have : S.wb l k = false := by
        unfold St.wb
        by_cases h1 : 0 ≤ l
        · rw [decide_eq_false (show ¬ l < (S.n : Int) by omega)]; simp
        · rw [decide_eq_false h1]; simp
      exact ⟨this, by unfold St.wbS; rw [this]; rfl⟩
    clear h hl
    go_enter Try.func43, Try.ntmps43
    go_wp2_with (go_at_call 58; refine HL.out.mono ?_; rintro e w' ⟨rfl, rfl⟩)
    go_ret
    exact ⟨ret_bool HE.out.1.symm, Lib.hid (by rw [HE.out.2]; exact .refl HD.out)⟩
end Go.Proofs.Ytmipodnfkilcfaa.Dev
