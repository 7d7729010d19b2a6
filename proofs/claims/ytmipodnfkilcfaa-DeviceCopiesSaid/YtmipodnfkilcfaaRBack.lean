/-
  THE REFERENCE's DEVICE: WriteBack, Arm, Fence.
-/
import Derived.Test.YtmipodnfkilcfaaRPersist
set_option linter.unusedVariables false
set_option linter.unusedSimpArgs false
namespace Go.Proofs.Ytmipodnfkilcfaa.Dev
open Go.ChangeShapes Go.WideShapes Go.ChangeAt Go.RowKit Go.Proofs.Ytmipodnfkilcfaa.Mem Go.Proofs.Ytmipodnfkilcfaa.Args Go.Proofs.Ytmipodnfkilcfaa.Own
set_option maxRecDepth 100000 in
theorem rwriteBack_any (w : World) (base M : Nat) (A : RAdr) (S : St) (l k : Int) (h : IsRef w base A S) (hS : S.Ok M) (hM : M ≤ 1000000) (hk1 : -9223372036854775808 ≤ k) (hk2 : k ≤ 9223372036854775807) :
    Calls Try.prog 44 #[.pointer (some ⟨A.d, 0, none⟩), .int .i64 l, .int .i64 k] w fun r w' => r = .returned (.bool (S.wb l k)) ∧ Hid (RStep w w' base A (S.wbS l k)) := by
  have HD := Lib.hid h
  have c0 := RB.c0 h.dev
  have co := RB.cOff h.dev
  have hn := hS.n1
  by_cases ho : S.off = true
  · have HE : Hid (S.wb l k = false ∧ S.wbS l k = S) := by
      have : S.wb l k = false := by unfold St.wb; rw [ho]; rfl
      exact ⟨this, by unfold St.wbS; rw [this]; rfl⟩
    rw [ho] at co
    clear h hS ho
    go_enter Try.func44, Try.ntmps44
    go_wp2
    go_ret
    exact ⟨ret_bool HE.out.1.symm, Lib.hid (by rw [HE.out.2]; exact .refl HD.out)⟩
  · have hof : S.off = false := by simpa using ho
    rw [hof] at co
    have HOF := Lib.hid hof
    clear ho hof
    by_cases hl0 : l < 0
    · have HE : Hid (S.wb l k = false ∧ S.wbS l k = S) := by
        have : S.wb l k = false := by unfold St.wb; rw [decide_eq_false (show ¬ 0 ≤ l by omega)]; simp
        exact ⟨this, by unfold St.wbS; rw [this]; rfl⟩
      clear h hS
      go_enter Try.func44, Try.ntmps44
      go_wp2
      go_ret
      exact ⟨ret_bool HE.out.1.symm, Lib.hid (by rw [HE.out.2]; exact .refl HD.out)⟩
    · by_cases hln : (S.n : Int) ≤ l
      · have HE : Hid (S.wb l k = false ∧ S.wbS l k = S) := by
          have : S.wb l k = false := by unfold St.wb; rw [decide_eq_false (show ¬ l < (S.n : Int) by omega)]; simp
          exact ⟨this, by unfold St.wbS; rw [this]; rfl⟩
        clear h hS
        go_enter Try.func44, Try.ntmps44
        go_wp2
        go_ret
        exact ⟨ret_bool HE.out.1.symm, Lib.hid (by rw [HE.out.2]; exact .refl HD.out)⟩
      · obtain ⟨l', rfl⟩ := Int.eq_ofNat_of_zero_le (show 0 ≤ l by omega)
        have hl : l' < S.n := by omega
        have hli : (l' : Int) < (S.n : Int) := by omega
        obtain ⟨C, c, _, h1, h2, hp, hh, _, _⟩ := h.line hl
        have hsum := hS.sum l'
        have HWB : Hid (S.wb (l' : Int) k = (decide (0 ≤ k) && decide (k ≤ ((S.hist l').length : Int)))) := by
          unfold Hid St.wb
          rw [HOF.out, decide_eq_true (show (0 : Int) ≤ (l' : Int) by omega), decide_eq_true hli]
          simp
        have HP := fun (k' : Nat) hk => Lib.hid (rpersist_any w base M A S l' k' h hS hM hl hk)
        clear h hS hp hl0 hln
        generalize hlen : (S.hist l').length = n at *
        clear hlen
        by_cases hk : 0 ≤ k ∧ k ≤ n
        · obtain ⟨k', rfl⟩ := Int.eq_ofNat_of_zero_le hk.1
          have HE : Hid (S.wb (l' : Int) (k' : Int) = true ∧ S.wbS (l' : Int) (k' : Int) = S.pst l' k') := by
            have : S.wb (l' : Int) (k' : Int) = true := by rw [HWB.out]; simp; omega
            exact ⟨this, by unfold St.wbS; rw [this]; rfl⟩
          have hkn : k' ≤ n := by omega
          have HP2 := HP k' hkn
          clear HWB hk HP
          go_enter Try.func44, Try.ntmps44
          go_wp2_with (go_at_call 66; refine HP2.out.mono ?_; rintro e w1 ⟨rfl, HQ⟩)
          go_ret
          exact ⟨ret_bool HE.out.1.symm, Lib.hid (by rw [HE.out.2]; exact HQ.out)⟩
        · have HE : Hid (S.wb (l' : Int) k = false ∧ S.wbS (l' : Int) k = S) := by
            have : S.wb (l' : Int) k = false := by rw [HWB.out]; simp; omega
            exact ⟨this, by unfold St.wbS; rw [this]; rfl⟩
          clear HWB HP
          by_cases hk0 : k < 0
          · clear hk
            go_enter Try.func44, Try.ntmps44
            go_wp2
            go_ret
            exact ⟨ret_bool HE.out.1.symm, Lib.hid (by rw [HE.out.2]; exact .refl HD.out)⟩
          · have hk3 : (n : Int) < k := by omega
            clear hk
            go_enter Try.func44, Try.ntmps44
            go_wp2
            go_ret
            exact ⟨ret_bool HE.out.1.symm, Lib.hid (by rw [HE.out.2]; exact .refl HD.out)⟩
theorem rarm_any (w : World) (base : Nat) (A : RAdr) (S : St) (m : Int) (h : IsRef w base A S) (h0 : -9223372036854775808 ≤ m) (h1 : m ≤ 9223372036854775807) :
    Calls Try.prog 46 #[.pointer (some ⟨A.d, 0, none⟩), .int .i64 m] w fun r w' => r = .returned (.tuple #[]) ∧ Hid (RStep w w' base A (S.armS m)) := by
  have co := RB.cOff h.dev
  have cl := RB.cLeft h.dev
  have zl := h.dev.frozen 17
  have HD := Lib.hid h
  clear h
  by_cases ho : S.off = true
  · have HE := Lib.hid (show S.armS m = S by simp [St.armS, ho])
    rw [ho] at co
    clear ho
    go_enter Try.func46, Try.ntmps46
    go_wp2
    go_end0
    exact ⟨rfl, Lib.hid (by rw [HE.out]; exact .refl HD.out)⟩
  · have hof : S.off = false := by simpa using ho
    rw [hof] at co
    have H2 := Lib.hid (show RStep w (w.setCell ⟨A.d, 17, none⟩ (.int .i64 (max m (-1)))) base A (S.armS m) from by
      have e : S.armS m = { S with left := if 0 ≤ m then some m.toNat else none } := by simp [St.armS, hof]
      rw [e]
      refine HD.out.ctlStep ?_ ((Only.refl (fun b => b = A.d) w).set _ _ (.inl rfl)) ⟨rfl, rfl, rfl, rfl, rfl, Nat.le_refl _⟩
      refine (Blk.set HD.out.dev 17 _).ext fun o ho => ?_
      by_cases k : o = 17
      · subst k; rw [upd_same]
        unfold refG leftI
        by_cases hm : 0 ≤ m
        · simp [hm]; omega
        · simp [hm]; omega
      · rw [upd_other _ _ k]; exact refG_far _ _ _ _ rfl rfl (fun _ => trivial) (fun e => absurd e k) (fun _ => rfl) (fun _ => rfl))
    clear ho hof
    by_cases hm : -1 ≤ m
    · have hmx : max m (-1) = m := by omega
      rw [hmx] at H2
      go_enter Try.func46, Try.ntmps46
      go_wp2
      go_end0
      exact ⟨rfl, H2⟩
    · have hmx : max m (-1) = -1 := by omega
      rw [hmx] at H2
      go_enter Try.func46, Try.ntmps46
      go_wp2
      go_end0
      exact ⟨rfl, H2⟩
end Go.Proofs.Ytmipodnfkilcfaa.Dev
