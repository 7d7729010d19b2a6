/-
  DEVICE: Off, Executed, Arm, Thread, Err, ID, lineAt, History, WriteBack.
-/
import Derived.Test.YtmipodnfkilcfaaDOps
set_option linter.unusedVariables false
set_option linter.unusedSimpArgs false
namespace Go.Proofs.Ytmipodnfkilcfaa.Dev
open Go.ChangeShapes Go.WideShapes Go.ChangeAt Go.RowKit Go.Proofs.Ytmipodnfkilcfaa.Mem
theorem off_any (w : World) (A : Adr) (S : St) (h : DB w A S) :
    Calls Try.prog 19 #[.pointer (some ⟨A.d, 0, none⟩)] w fun r w' => r = .returned (.bool S.off) ∧ w' = w := by
  have c := h.cOff
  clear h
  generalize S.off = b at *
  go_enter Try.func19, Try.ntmps19
  go_wp2
  go_ret
  exact ⟨rfl, rfl⟩
theorem executed_any (w : World) (A : Adr) (S : St) (h : DB w A S) :
    Calls Try.prog 20 #[.pointer (some ⟨A.d, 0, none⟩)] w fun r w' => r = .returned (.int .u64 (S.ex : Int)) ∧ w' = w := by
  have c : w.cell? ⟨A.d, 33, none⟩ = some (.int .u64 (S.ex : Int)) := h.cell (o := 33) (by omega)
  clear h
  generalize S.ex = b at *
  go_enter Try.func20, Try.ntmps20
  go_wp2
  go_ret
  exact ⟨rfl, rfl⟩
theorem err_any (w : World) (A : Adr) (S : St) (t : Nat) (h : DB w A S) (ht : t < 8) :
    Calls Try.prog 31 #[.pointer (some ⟨A.d, 1 + t * 4, none⟩)] w fun r w' => r = .returned (.int .i64 (S.err t : Int)) ∧ w' = w := by
  have c := h.cell (o := 1 + t * 4 + 2) (by omega)
  rw [devG_err _ _ ht] at c
  clear h
  generalize S.err t = b at *
  go_enter Try.func31, Try.ntmps31
  go_wp2
  go_ret
  exact ⟨rfl, rfl⟩
theorem id_any (w : World) (A : Adr) (S : St) (t : Nat) (h : DB w A S) (ht : t < 8) :
    Calls Try.prog 32 #[.pointer (some ⟨A.d, 1 + t * 4, none⟩)] w fun r w' => r = .returned (.int .i64 (t : Int)) ∧ w' = w := by
  have c := h.cell (o := 1 + t * 4 + 1) (by omega)
  rw [devG_id _ _ ht] at c
  clear h
  go_enter Try.func32, Try.ntmps32
  go_wp2
  go_ret
  exact ⟨rfl, rfl⟩
theorem thread_any (w : World) (d t : Nat) (ht : t < 8) :
    Calls Try.prog 12 #[.pointer (some ⟨d, 0, none⟩), .int .i64 (t : Int)] w fun r w' => r = .returned (.pointer (some ⟨d, 1 + t * 4, none⟩)) ∧ w' = w := by
  have h8 : (t : Int) < 8 := by omega
  go_enter Try.func12, Try.ntmps12
  go_wp2
  go_ret
  exact ⟨rfl, rfl⟩
theorem thread_out (w : World) (d : Nat) (t : Int) (ht : t < 0 ∨ 8 ≤ t) :
    Calls Try.prog 12 #[.pointer (some ⟨d, 0, none⟩), .int .i64 t] w fun r w' => r = .returned (.pointer none) ∧ w' = w := by
  rcases ht with ht | ht
  · go_enter Try.func12, Try.ntmps12
    go_wp2
    go_ret
    exact ⟨rfl, rfl⟩
  · have h0 : ¬ t < 0 := by omega
    go_enter Try.func12, Try.ntmps12
    go_wp2
    go_ret
    exact ⟨rfl, rfl⟩
theorem lineAt_any (w : World) (A : Adr) (S : St) (l : Nat) (h : DB w A S) (hl : l < S.n) (hn : S.n ≤ 4096) :
    Calls Try.prog 58 #[.pointer (some ⟨A.d, 0, none⟩), .int .i64 (l : Int)] w fun r w' => r = .returned (.pointer (some ⟨A.lb, l * 18, none⟩)) ∧ w' = w := by
  have c := h.c0
  clear h
  generalize S.n = n at *
  have h1 : (l : Int) < (n : Int) := by omega
  go_enter Try.func58, Try.ntmps58
  go_wp2
  go_ret
  exact ⟨rfl, rfl⟩
theorem lineAt_out (w : World) (A : Adr) (S : St) (l : Int) (h : DB w A S) (hl : l < 0 ∨ (S.n : Int) ≤ l) (hn : S.n ≤ 4096) :
    Calls Try.prog 58 #[.pointer (some ⟨A.d, 0, none⟩), .int .i64 l] w fun r w' => r = .returned (.pointer none) ∧ w' = w := by
  have c := h.c0
  clear h
  generalize S.n = n at *
  rcases hl with ht | ht
  · go_enter Try.func58, Try.ntmps58
    go_wp2
    go_ret
    exact ⟨rfl, rfl⟩
  · have h0 : ¬ l < 0 := by omega
    go_enter Try.func58, Try.ntmps58
    go_wp2
    go_ret
    exact ⟨rfl, rfl⟩
theorem arm_any (w : World) (base : Nat) (A : Adr) (S : St) (m : Int) (h : IsDev w base A S) (h0 : -9223372036854775808 ≤ m) (h1 : m ≤ 9223372036854775807) :
    Calls Try.prog 45 #[.pointer (some ⟨A.d, 0, none⟩), .int .i64 m] w fun r w' => r = .returned (.tuple #[]) ∧ Hid (Step w w' base A S (S.armS m)) := by
  have c34 := h.db.cOff
  have c35 := h.db.cell (o := 35) (by omega)
  have c36 := h.db.cell (o := 36) (by omega)
  have z35 := h.db.frozen 35
  have z36 := h.db.frozen 36
  have HD := Lib.hid h
  clear h
  by_cases ho : S.off = true
  · have HE := Lib.hid (show S.armS m = S by simp [St.armS, ho])
    rw [ho] at c34
    clear ho
    go_enter Try.func45, Try.ntmps45
    go_wp2
    try simp only [Exit.inBlock, Exit.then]
    refine bodyPost_ret (results_none rfl _ _ _) rfl ?_
    exact ⟨rfl, Lib.hid (by rw [HE.out]; exact .refl HD.out)⟩
  · have hof : S.off = false := by simpa using ho
    rw [hof] at c34
    by_cases hm : 0 ≤ m
    · have HE := Lib.hid (show S.armS m = { S with left := some m.toNat } by simp [St.armS, hof, hm])
      have hd : decide (0 ≤ m) = true := by simpa using hm
      clear ho hof
      have H2 := Lib.hid (show ∀ v, v = (Value.int .i64 m) → DB ((w.setCell ⟨A.d, 35, none⟩ (.bool true)).setCell ⟨A.d, 36, none⟩ v) A { S with left := some m.toNat } from fun v hv => by
        subst hv
        refine (Blk.set (Blk.set HD.out.db 35 (.bool true)) 36 _).ext fun o ho => ?_
        by_cases k : o = 36
        · subst k; rw [upd_same]; unfold devG; simp; omega
        · rw [upd_other _ _ k]
          by_cases k : o = 35
          · subst k; rw [upd_same]; rfl
          · rw [upd_other _ _ k]
            unfold devG
            simp only
            by_cases k1 : o = 0
            · simp [k1]
            · by_cases k2 : o < 33
              · simp [k1, k2]
              · by_cases k3 : o = 33
                · simp [k3]
                · by_cases k4 : o = 34
                  · simp [k4]
                  · omega)
      have hmx : max m 0 = m := by omega
      go_enter Try.func45, Try.ntmps45
      go_wp2
      go_end0
      refine ⟨rfl, Lib.hid ?_⟩
      rw [HE.out]
      exact HD.out.ctlStep (H2.out _ rfl) (((Only.refl (fun b => b = A.d) w).set _ _ (.inl rfl)).set _ _ (.inl rfl)) ⟨rfl, rfl, rfl, rfl, rfl, Nat.le_refl _⟩
    · have HE := Lib.hid (show S.armS m = { S with left := none } by simp [St.armS, hof, hm])
      have hd : decide (0 ≤ m) = false := by simpa using hm
      clear ho hof
      have H2 := Lib.hid (show ∀ v, v = (Value.int .i64 0) → DB ((w.setCell ⟨A.d, 35, none⟩ (.bool false)).setCell ⟨A.d, 36, none⟩ v) A { S with left := none } from fun v hv => by
        subst hv
        refine (Blk.set (Blk.set HD.out.db 35 (.bool false)) 36 _).ext fun o ho => ?_
        by_cases k : o = 36
        · subst k; rw [upd_same]; rfl
        · rw [upd_other _ _ k]
          by_cases k : o = 35
          · subst k; rw [upd_same]; rfl
          · rw [upd_other _ _ k]
            unfold devG
            simp only
            by_cases k1 : o = 0
            · simp [k1]
            · by_cases k2 : o < 33
              · simp [k1, k2]
              · by_cases k3 : o = 33
                · simp [k3]
                · by_cases k4 : o = 34
                  · simp [k4]
                  · omega)
      have hmx : max m 0 = 0 := by omega
      go_enter Try.func45, Try.ntmps45
      go_wp2
      go_end0
      refine ⟨rfl, Lib.hid ?_⟩
      rw [HE.out]
      exact HD.out.ctlStep (H2.out _ rfl) (((Only.refl (fun b => b = A.d) w).set _ _ (.inl rfl)).set _ _ (.inl rfl)) ⟨rfl, rfl, rfl, rfl, rfl, Nat.le_refl _⟩
theorem history_any (w : World) (base M : Nat) (A : Adr) (S : St) (l : Nat) (h : IsDev w base A S) (hS : S.Ok M) (hM : M ≤ 1000000) (hl : l < S.n) :
    Calls Try.prog 30 #[.pointer (some ⟨A.d, 0, none⟩), .int .i64 (l : Int)] w fun r w' => ∃ v, r = .returned v ∧ Hid (Hist w' w.heap.size v (S.hist l) ∧ Below w.heap.size w w') := by
  have HL := Lib.hid (lineAt_any w A S l h.db hl hS.n1)
  have HC := Lib.hid (clone_any w base (A.hv l) (S.hist l) (h.hist l hl) (by have := hS.sum l; omega))
  have c := h.lines.cell (o := l * 18 + 16) (by omega)
  rw [linesG_hist] at c
  clear h hS
  go_enter Try.func30, Try.ntmps30
  go_wp2_with (first
    | (go_at_call 58; refine HL.out.mono ?_; rintro e w' ⟨rfl, rfl⟩)
    | (go_at_call 17; refine HC.out.mono ?_; rintro e w1 ⟨v, rfl, HQ⟩))
  go_ret
  exact ⟨_, rfl, HQ⟩
end Go.Proofs.Ytmipodnfkilcfaa.Dev
