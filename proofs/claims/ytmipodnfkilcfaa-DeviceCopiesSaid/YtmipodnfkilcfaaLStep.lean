/-
  THE DEVICE AND THE REFERENCE BESIDE ONE ANOTHER: a step of each; the law's mod.
-/
import Derived.Test.YtmipodnfkilcfaaLPair
set_option linter.unusedVariables false
set_option linter.unusedSimpArgs false
namespace Go.Proofs.Ytmipodnfkilcfaa.Dev
open Go.ChangeShapes Go.WideShapes Go.ChangeAt Go.RowKit Go.Proofs.Ytmipodnfkilcfaa.Mem Go.Proofs.Ytmipodnfkilcfaa.Args Go.Proofs.Ytmipodnfkilcfaa.Own
section
variable {w0 w : World} {d r e M : Nat} {G : Nat → Value} {SA SR : St}
theorem p_load (hP : Pair w0 w d r e G SA SR) (t o : Nat) (hS : SA.Ok M) (ht : t < 8) (ho : o < 18446744073709551616) :
    Calls Try.prog 15 #[.pointer (some ⟨d, 1 + t * 4, none⟩), .int .u64 (o : Int)] w fun q w' => q = .returned (.int .u64 (SA.load o : Int)) ∧ Hid (Pair w0 w' d r e G (SA.loadS t o) SR) := by
  obtain ⟨A, R, h1, h2, hd, hr, he, hb⟩ := hP
  subst h1 h2
  refine (load_any w _ M A SA t o hd hS ht ho).mono ?_
  rintro q w' ⟨e1, hs⟩
  exact ⟨e1, Lib.hid (Pair.step rfl rfl hd hr he hb hs.out)⟩
theorem p_store (hP : Pair w0 w d r e G SA SR) (t o x : Nat) (hS : SA.Ok M) (hM : M + 1 ≤ 1000000) (ht : t < 8) (ho : o < 18446744073709551616) :
    Calls Try.prog 13 #[.pointer (some ⟨d, 1 + t * 4, none⟩), .int .u64 (o : Int), .int .u64 (x : Int)] w fun q w' => q = .returned (.tuple #[]) ∧ Hid (Pair w0 w' d r e G (SA.storeS t o x) SR) := by
  obtain ⟨A, R, h1, h2, hd, hr, he, hb⟩ := hP
  subst h1 h2
  refine (store_thread_any w _ (M + 1) A SA t o x hd (hS.more (by omega)) (St.cntS_ok hS t _) (by omega) ht ho hb.size).mono ?_
  rintro q w' ⟨e1, hs⟩
  exact ⟨e1, Lib.hid (Pair.step rfl rfl hd hr he hb hs.out)⟩
theorem p_cas (hP : Pair w0 w d r e G SA SR) (t o old x : Nat) (hS : SA.Ok M) (hM : M + 1 ≤ 1000000) (ht : t < 8) (ho : o < 18446744073709551616) :
    Calls Try.prog 37 #[.pointer (some ⟨d, 1 + t * 4, none⟩), .int .u64 (o : Int), .int .u64 (old : Int), .int .u64 (x : Int)] w fun q w' => q = .returned (.bool (SA.cas o old)) ∧ Hid (Pair w0 w' d r e G (SA.casS t o old x) SR) := by
  obtain ⟨A, R, h1, h2, hd, hr, he, hb⟩ := hP
  subst h1 h2
  refine (cas_any w _ (M + 1) A SA t o old x hd (hS.more (by omega)) (St.cntS_ok hS t _) (by omega) ht ho hb.size).mono ?_
  rintro q w' ⟨e1, hs⟩
  exact ⟨e1, Lib.hid (Pair.step rfl rfl hd hr he hb hs.out)⟩
theorem p_flush (hP : Pair w0 w d r e G SA SR) (t o : Nat) (hS : SA.Ok M) (hM : M + 1 ≤ 1000000) (ht : t < 8) (ho : o < 18446744073709551616) :
    Calls Try.prog 39 #[.pointer (some ⟨d, 1 + t * 4, none⟩), .int .u64 (o : Int)] w fun q w' => q = .returned (.tuple #[]) ∧ Hid (Pair w0 w' d r e G (SA.flushS t o) SR) := by
  obtain ⟨A, R, h1, h2, hd, hr, he, hb⟩ := hP
  subst h1 h2
  refine (flush_any w _ (M + 1) A SA t o hd (hS.more (by omega)) (by omega) ht ho (St.cntS_ok hS t _)).mono ?_
  rintro q w' ⟨e1, hs⟩
  exact ⟨e1, Lib.hid (Pair.step rfl rfl hd hr he hb hs.out)⟩
theorem p_fence (hP : Pair w0 w d r e G SA SR) (t : Nat) (hS : SA.Ok M) (hM : M + 1 ≤ 1000000) (ht : t < 8) :
    Calls Try.prog 41 #[.pointer (some ⟨d, 1 + t * 4, none⟩)] w fun q w' => q = .returned (.tuple #[]) ∧ Hid (Pair w0 w' d r e G (SA.fenceS t) SR) := by
  obtain ⟨A, R, h1, h2, hd, hr, he, hb⟩ := hP
  subst h1 h2
  refine (fence_any w _ (M + 1) A SA t hd (hS.more (by omega)) (by omega) ht (St.cntS_ok hS t _)).mono ?_
  rintro q w' ⟨e1, hs⟩
  exact ⟨e1, Lib.hid (Pair.step rfl rfl hd hr he hb hs.out)⟩
theorem p_wb (hP : Pair w0 w d r e G SA SR) (l k : Int) (hS : SA.Ok M) (hM : M + 1 ≤ 1000000) (hk1 : -9223372036854775808 ≤ k) (hk2 : k ≤ 9223372036854775807) :
    Calls Try.prog 43 #[.pointer (some ⟨d, 0, none⟩), .int .i64 l, .int .i64 k] w fun q w' => q = .returned (.bool (SA.wb l k)) ∧ Hid (Pair w0 w' d r e G (SA.wbS l k) SR) := by
  obtain ⟨A, R, h1, h2, hd, hr, he, hb⟩ := hP
  subst h1 h2
  refine (writeBack_any w _ M A SA l k hd hS (by omega) hk1 hk2).mono ?_
  rintro q w' ⟨e1, hs⟩
  exact ⟨e1, Lib.hid (Pair.step rfl rfl hd hr he hb hs.out)⟩
theorem p_arm (hP : Pair w0 w d r e G SA SR) (k : Int) (hk1 : -9223372036854775808 ≤ k) (hk2 : k ≤ 9223372036854775807) :
    Calls Try.prog 45 #[.pointer (some ⟨d, 0, none⟩), .int .i64 k] w fun q w' => q = .returned (.tuple #[]) ∧ Hid (Pair w0 w' d r e G (SA.armS k) SR) := by
  obtain ⟨A, R, h1, h2, hd, hr, he, hb⟩ := hP
  subst h1 h2
  refine (arm_any w _ A SA k hd hk1 hk2).mono ?_
  rintro q w' ⟨e1, hs⟩
  exact ⟨e1, Lib.hid (Pair.step rfl rfl hd hr he hb hs.out)⟩
theorem q_load (hP : Pair w0 w d r e G SA SR) (t o : Nat) (hS : SR.Ok M) (hM : M + 1 ≤ 1000000) (ht : t < 8) (ho : o < 18446744073709551616) :
    Calls Try.prog 35 #[.pointer (some ⟨r, 0, none⟩), .int .i64 (t : Int), .int .u64 (o : Int)] w fun q w' => q = .returned (.int .u64 (SR.load o : Int)) ∧ Hid (Pair w0 w' d r e G SA (SR.loadS t o)) := by
  obtain ⟨A, R, h1, h2, hd, hr, he, hb⟩ := hP
  subst h1 h2
  refine (rload_any w _ M R SR t o hr hS (by omega) ht ho).mono ?_
  rintro q w' ⟨e1, hs⟩
  exact ⟨e1, Lib.hid (Pair.rstep rfl rfl hd hr he hb hs.out)⟩
theorem q_store (hP : Pair w0 w d r e G SA SR) (t o x : Nat) (hS : SR.Ok M) (hM : M + 1 ≤ 1000000) (ht : t < 8) (ho : o < 18446744073709551616) :
    Calls Try.prog 36 #[.pointer (some ⟨r, 0, none⟩), .int .i64 (t : Int), .int .u64 (o : Int), .int .u64 (x : Int)] w fun q w' => q = .returned (.tuple #[]) ∧ Hid (Pair w0 w' d r e G SA (SR.storeS t o x)) := by
  obtain ⟨A, R, h1, h2, hd, hr, he, hb⟩ := hP
  subst h1 h2
  refine (rstore_any w _ (M + 1) R SR t o x hr (hS.more (by omega)) (St.cntS_ok hS t _) (by omega) ht ho).mono ?_
  rintro q w' ⟨e1, hs⟩
  exact ⟨e1, Lib.hid (Pair.rstep rfl rfl hd hr he hb hs.out)⟩
theorem q_cas (hP : Pair w0 w d r e G SA SR) (t o old x : Nat) (hS : SR.Ok M) (hM : M + 1 ≤ 1000000) (ht : t < 8) (ho : o < 18446744073709551616) :
    Calls Try.prog 38 #[.pointer (some ⟨r, 0, none⟩), .int .i64 (t : Int), .int .u64 (o : Int), .int .u64 (old : Int), .int .u64 (x : Int)] w fun q w' => q = .returned (.bool (SR.cas o old)) ∧ Hid (Pair w0 w' d r e G SA (SR.casS t o old x)) := by
  obtain ⟨A, R, h1, h2, hd, hr, he, hb⟩ := hP
  subst h1 h2
  refine (rcas_any w _ (M + 1) R SR t o old x hr (hS.more (by omega)) (St.cntS_ok hS t _) (by omega) ht ho).mono ?_
  rintro q w' ⟨e1, hs⟩
  exact ⟨e1, Lib.hid (Pair.rstep rfl rfl hd hr he hb hs.out)⟩
theorem q_flush (hP : Pair w0 w d r e G SA SR) (t o : Nat) (hS : SR.Ok M) (hM : M + 1 ≤ 1000000) (ht : t < 8) (ho : o < 18446744073709551616) :
    Calls Try.prog 40 #[.pointer (some ⟨r, 0, none⟩), .int .i64 (t : Int), .int .u64 (o : Int)] w fun q w' => q = .returned (.tuple #[]) ∧ Hid (Pair w0 w' d r e G SA (SR.flushS t o)) := by
  obtain ⟨A, R, h1, h2, hd, hr, he, hb⟩ := hP
  subst h1 h2
  refine (rflush_any w _ (M + 1) R SR t o hr (hS.more (by omega)) (by omega) ht ho (St.cntS_ok hS t _)).mono ?_
  rintro q w' ⟨e1, hs⟩
  exact ⟨e1, Lib.hid (Pair.rstep rfl rfl hd hr he hb hs.out)⟩
theorem q_fence (hP : Pair w0 w d r e G SA SR) (t : Nat) (hS : SR.Ok M) (hM : M + 1 ≤ 1000000) (ht : t < 8) :
    Calls Try.prog 42 #[.pointer (some ⟨r, 0, none⟩), .int .i64 (t : Int)] w fun q w' => q = .returned (.tuple #[]) ∧ Hid (Pair w0 w' d r e G SA (SR.fenceS t)) := by
  obtain ⟨A, R, h1, h2, hd, hr, he, hb⟩ := hP
  subst h1 h2
  refine (rfence_any w _ (M + 1) R SR t hr (hS.more (by omega)) (by omega) ht (St.cntS_ok hS t _)).mono ?_
  rintro q w' ⟨e1, hs⟩
  exact ⟨e1, Lib.hid (Pair.rstep rfl rfl hd hr he hb hs.out)⟩
theorem q_wb (hP : Pair w0 w d r e G SA SR) (l k : Int) (hS : SR.Ok M) (hM : M + 1 ≤ 1000000) (hk1 : -9223372036854775808 ≤ k) (hk2 : k ≤ 9223372036854775807) :
    Calls Try.prog 44 #[.pointer (some ⟨r, 0, none⟩), .int .i64 l, .int .i64 k] w fun q w' => q = .returned (.bool (SR.wb l k)) ∧ Hid (Pair w0 w' d r e G SA (SR.wbS l k)) := by
  obtain ⟨A, R, h1, h2, hd, hr, he, hb⟩ := hP
  subst h1 h2
  refine (rwriteBack_any w _ M R SR l k hr hS (by omega) hk1 hk2).mono ?_
  rintro q w' ⟨e1, hs⟩
  exact ⟨e1, Lib.hid (Pair.rstep rfl rfl hd hr he hb hs.out)⟩
theorem q_arm (hP : Pair w0 w d r e G SA SR) (k : Int) (hk1 : -9223372036854775808 ≤ k) (hk2 : k ≤ 9223372036854775807) :
    Calls Try.prog 46 #[.pointer (some ⟨r, 0, none⟩), .int .i64 k] w fun q w' => q = .returned (.tuple #[]) ∧ Hid (Pair w0 w' d r e G SA (SR.armS k)) := by
  obtain ⟨A, R, h1, h2, hd, hr, he, hb⟩ := hP
  subst h1 h2
  refine (rarm_any w _ R SR k hr hk1 hk2).mono ?_
  rintro q w' ⟨e1, hs⟩
  exact ⟨e1, Lib.hid (Pair.rstep rfl rfl hd hr he hb hs.out)⟩
end
theorem tmod_range (a n : Int) (h : 0 < n) : -n < a.tmod n ∧ a.tmod n < n ∧ (a.tmod n + n) % n = a % n := by
  by_cases h0 : 0 ≤ a
  · rw [Int.tmod_eq_emod_of_nonneg h0]
    have h2 := Int.emod_nonneg a (show n ≠ 0 by omega)
    have h3 := Int.emod_lt_of_pos a h
    refine ⟨by omega, by omega, ?_⟩
    rw [Int.add_emod_right, Int.emod_emod_of_dvd _ (Int.dvd_refl n)]
  · have e : a.tmod n = -((-a) % n) := by
      have h1 := Int.neg_tmod (-a) n
      rw [Int.neg_neg, Int.tmod_eq_emod_of_nonneg (a := -a) (by omega)] at h1
      exact h1
    have h2 := Int.emod_nonneg (-a) (show n ≠ 0 by omega)
    have h3 := Int.emod_lt_of_pos (-a) h
    have h4 := Int.emod_add_mul_ediv (-a) n
    rw [e]
    refine ⟨by omega, by omega, ?_⟩
    have h5 : -((-a) % n) + n = a + n * (1 + (-a) / n) := by
      rw [Int.mul_add, Int.mul_one]; omega
    rw [h5, Int.add_mul_emod_self_left]
theorem mod_any (w : World) (a n : Int) (h : 0 < n) (hn : n ≤ 1000) :
    Calls Try.prog 34 #[.int .i64 a, .int .i64 n] w fun q w' => q = .returned (.int .i64 (a % n)) ∧ w' = w := by
  obtain ⟨h1, h2, h3⟩ := tmod_range a n h
  have H3 := Lib.hid h3
  have hz : (n == 0) = false := by simp; omega
  have hw1 : IntKind.i64.wrap (a.tmod n) = a.tmod n := IntWalk.i64_in _ (by omega)
  have hw2 : IntKind.i64.wrap (a.tmod n + n) = a.tmod n + n := IntWalk.i64_in _ (by omega)
  have hw3 : IntKind.i64.wrap ((a.tmod n + n).tmod n) = (a.tmod n + n).tmod n := IntWalk.i64_in _ (by rw [Int.tmod_eq_emod_of_nonneg (by omega), h3]; have := Int.emod_nonneg a (show n ≠ 0 by omega); have := Int.emod_lt_of_pos a h; omega)
  have hne : n ≠ 0 := by omega
  clear h3
  go_enter Try.func34, Try.ntmps34
  go_wp2
  go_ret
  exact ⟨ret_int H3.out, rfl⟩
end Go.Proofs.Ytmipodnfkilcfaa.Dev
