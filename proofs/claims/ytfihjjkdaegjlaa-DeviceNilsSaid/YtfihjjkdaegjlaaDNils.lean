/-
  NIL RECEIVERS: every method of a nil device and of a nil thread.
-/
import Derived.Test.YtfihjjkdaegjlaaDAwake
namespace Go.Proofs.Ytfihjjkdaegjlaa.Dev
open Go.ChangeShapes Go.WideShapes Go.ChangeAt Go.RowKit Go.Proofs.Ytfihjjkdaegjlaa.Mem Go.Proofs.Ytfihjjkdaegjlaa.Args Go.Proofs.Ytfihjjkdaegjlaa.Own
theorem nThread (w : World) (n : Int) : Calls Try.prog 17 #[.pointer none, .int .i64 n] w fun r w' => r = .returned (.pointer none) ∧ w' = w := by
  go_enter Try.func17, Try.ntmps17
  go_wp2
  go_ret
  exact ⟨rfl, rfl⟩
theorem nOff (w : World) : Calls Try.prog 27 #[.pointer none] w fun r w' => r = .returned (.bool false) ∧ w' = w := by
  go_enter Try.func27, Try.ntmps27
  go_wp2
  go_ret
  exact ⟨rfl, rfl⟩
theorem nArm (w : World) (n : Int) : Calls Try.prog 21 #[.pointer none, .int .i64 n] w fun r w' => r = .returned (.tuple #[]) ∧ w' = w := by
  go_enter Try.func21, Try.ntmps21
  go_wp2
  try simp only [Exit.inBlock, Exit.then]
  refine bodyPost_ret (results_none rfl _ _ _) rfl ?_
  exact ⟨rfl, rfl⟩
theorem nExecuted (w : World) : Calls Try.prog 28 #[.pointer none] w fun r w' => r = .returned (.int .u64 0) ∧ w' = w := by
  go_enter Try.func28, Try.ntmps28
  go_wp2
  go_ret
  exact ⟨rfl, rfl⟩
theorem nLineAt (w : World) (n : Int) : Calls Try.prog 64 #[.pointer none, .int .i64 n] w fun r w' => r = .returned (.pointer none) ∧ w' = w := by
  go_enter Try.func64, Try.ntmps64
  go_wp2
  go_ret
  exact ⟨rfl, rfl⟩
theorem nWriteBack (w : World) (n k : Int) : Calls Try.prog 29 #[.pointer none, .int .i64 n, .int .i64 k] w fun r w' => r = .returned (.bool false) ∧ w' = w := by
  go_enter Try.func29, Try.ntmps29
  go_wp2_with (go_at_call 64; refine (nLineAt w n).mono ?_; rintro e w' ⟨rfl, rfl⟩)
  go_ret
  exact ⟨rfl, rfl⟩
theorem nHistory (w : World) (n : Int) : Calls Try.prog 31 #[.pointer none, .int .i64 n] w fun r w' => r = .returned (.slice none 0 0) ∧ w' = w := by
  go_enter Try.func31, Try.ntmps31
  go_wp2_with (go_at_call 64; refine (nLineAt w n).mono ?_; rintro e w' ⟨rfl, rfl⟩)
  go_ret
  exact ⟨rfl, rfl⟩
theorem nCopy (w : World) : Calls Try.prog 35 #[.pointer none] w fun r w' => r = .returned (.pointer none) ∧ w' = w := by
  go_enter Try.func35, Try.ntmps35
  go_wp2
  go_ret
  exact ⟨rfl, rfl⟩
theorem nTSize (w : World) : Calls Try.prog 38 #[.pointer none] w fun r w' => r = .returned (.int .u64 0) ∧ w' = w := by
  go_enter Try.func38, Try.ntmps38
  go_wp2
  go_ret
  exact ⟨rfl, rfl⟩
theorem nErr (w : World) : Calls Try.prog 40 #[.pointer none] w fun r w' => r = .returned (.int .i64 1) ∧ w' = w := by
  go_enter Try.func40, Try.ntmps40
  go_wp2
  go_ret
  exact ⟨rfl, rfl⟩
theorem nID (w : World) : Calls Try.prog 39 #[.pointer none] w fun r w' => r = .returned (.int .i64 0) ∧ w' = w := by
  go_enter Try.func39, Try.ntmps39
  go_wp2
  go_ret
  exact ⟨rfl, rfl⟩
theorem nAdmit (w : World) (v : Bool) : Calls Try.prog 71 #[.pointer none, .bool v] w fun r w' => r = .returned (.bool false) ∧ w' = w := by
  go_enter Try.func71, Try.ntmps71
  go_wp2
  go_ret
  exact ⟨rfl, rfl⟩
theorem nCount (w : World) (v : Bool) : Calls Try.prog 58 #[.pointer none, .bool v] w fun r w' => r = .returned (.bool false) ∧ w' = w := by
  go_enter Try.func58, Try.ntmps58
  go_wp2_with (go_at_call 71; refine (nAdmit w v).mono ?_; rintro e w' ⟨rfl, rfl⟩)
  go_ret
  exact ⟨rfl, rfl⟩
theorem nIsWord (w : World) (o : Nat) : Calls Try.prog 59 #[.pointer none, .int .u64 (o : Int)] w fun r w' => r = .returned (.bool false) ∧ w' = w := by
  by_cases h8 : o % 8 = 0
  · have hb : (((o : Int) % 8) == 0) = true := by simp; omega
    have hb2 : (((o : Int).tmod 8) == 0) = true := by rw [Int.tmod_eq_emod_of_nonneg (by omega)]; exact hb
    have hn : ¬ (o : Int) < 0 := by omega
    go_enter Try.func59, Try.ntmps59
    go_wp2_with (go_at_call 38; refine (nTSize w).mono ?_; rintro e w' ⟨rfl, rfl⟩)
    go_ret
    exact ⟨ret_bool (by simp), rfl⟩
  · have hb : (((o : Int) % 8) == 0) = false := by simp; omega
    have hb2 : (((o : Int).tmod 8) == 0) = false := by rw [Int.tmod_eq_emod_of_nonneg (by omega)]; exact hb
    go_enter Try.func59, Try.ntmps59
    go_wp2
    go_ret
    exact ⟨ret_bool (by simp), rfl⟩
theorem nLoad (w : World) (o : Nat) : Calls Try.prog 36 #[.pointer none, .int .u64 (o : Int)] w fun r w' => r = .returned (.int .u64 0) ∧ w' = w := by
  go_enter Try.func36, Try.ntmps36
  go_wp2_with (first
    | (go_at_call 59; refine (nIsWord w o).mono ?_; rintro e w' ⟨rfl, hw⟩; have hw2 := hw.symm; clear hw; subst hw2)
    | (go_at_call 71; refine (nAdmit w false).mono ?_; rintro e w' ⟨rfl, hw⟩; have hw2 := hw.symm; clear hw; subst hw2))
  go_ret
  exact ⟨rfl, rfl⟩
theorem nStore (w : World) (o : Nat) (x : Int) : Calls Try.prog 22 #[.pointer none, .int .u64 (o : Int), .int .u64 x] w fun r w' => r = .returned (.tuple #[]) ∧ w' = w := by
  go_enter Try.func22, Try.ntmps22
  go_wp2_with (first
    | (go_at_call 59; refine (nIsWord w o).mono ?_; rintro e w' ⟨rfl, hw⟩; have hw2 := hw.symm; clear hw; subst hw2)
    | (go_at_call 58; refine (nCount w false).mono ?_; rintro e w' ⟨rfl, hw⟩; have hw2 := hw.symm; clear hw; subst hw2))
  go_end0
  exact ⟨rfl, rfl⟩
theorem nCAS (w : World) (o : Nat) (x y : Int) : Calls Try.prog 37 #[.pointer none, .int .u64 (o : Int), .int .u64 x, .int .u64 y] w fun r w' => r = .returned (.bool false) ∧ w' = w := by
  go_enter Try.func37, Try.ntmps37
  go_wp2_with (first
    | (go_at_call 59; refine (nIsWord w o).mono ?_; rintro e w' ⟨rfl, hw⟩; have hw2 := hw.symm; clear hw; subst hw2)
    | (go_at_call 58; refine (nCount w false).mono ?_; rintro e w' ⟨rfl, hw⟩; have hw2 := hw.symm; clear hw; subst hw2))
  go_ret
  exact ⟨rfl, rfl⟩
theorem nFlush (w : World) (o : Nat) : Calls Try.prog 23 #[.pointer none, .int .u64 (o : Int)] w fun r w' => r = .returned (.tuple #[]) ∧ w' = w := by
  have hn : ¬ (o : Int) < 0 := by omega
  go_enter Try.func23, Try.ntmps23
  go_wp2_with (first
    | (go_at_call 38; refine (nTSize w).mono ?_; rintro e w' ⟨rfl, hw⟩; have hw2 := hw.symm; clear hw; subst hw2)
    | (go_at_call 58; refine (nCount w _).mono ?_; rintro e w' ⟨rfl, hw⟩; have hw2 := hw.symm; clear hw; subst hw2))
  try simp only [Exit.inBlock, Exit.then]
  refine bodyPost_ret (results_none rfl _ _ _) rfl ?_
  exact ⟨rfl, rfl⟩
theorem nFence (w : World) : Calls Try.prog 24 #[.pointer none] w fun r w' => r = .returned (.tuple #[]) ∧ w' = w := by
  go_enter Try.func24, Try.ntmps24
  go_wp2_with (go_at_call 58; refine (nCount w true).mono ?_; rintro e w' ⟨rfl, rfl⟩)
  try simp only [Exit.inBlock, Exit.then]
  refine bodyPost_ret (results_none rfl _ _ _) rfl ?_
  exact ⟨rfl, rfl⟩
set_option maxRecDepth 100000 in
theorem nImage (w : World) (C : Option Addr) (m cap : Nat) :
    Calls Try.prog 33 #[.pointer none, .slice C m cap] w fun e w' => ∃ D cc, e = .returned (.slice D 0 cc) ∧ Hid (Below w.heap.size w w') := by
  obtain ⟨i0, hi, hz0, hz1, hz2⟩ := info_parts info8
  have HI := Lib.hid hi
  have HZ0 := Lib.hid hz0
  have HZ1 := Lib.hid hz1
  have HZ2 := Lib.hid hz2
  clear hi hz0 hz1 hz2
  go_enter Try.func33, Try.ntmps33
  go_wp2_with (first
    | (go_at_call 26; refine (size_nil w).mono ?_; rintro e w' ⟨rfl, hw⟩; have hw2 := hw.symm; clear hw; subst hw2)
    | (at_make; refine wpList_make_own _ rfl _ _ 22 rfl w.heap.size 5 i0 (.int .u8 0) 1 Try.underlying22 HI.out HZ0.out HZ1.out .i64 .u64 0 0 rfl rfl rfl (by rw [HZ2.out]; omega) (by simp [maxLen]) (Nat.le_refl _) ?_; intro w1 ho1 hg1; have HB1 : Hid (Below w.heap.size w w1) := (Below.refl _ _).grown hg1 (Nat.le_refl _) (fun k hk => by cases hk); clear ho1 hg1)
    | (go_at_call 25; refine (lines_nil w1).mono ?_; rintro e w' ⟨rfl, hw⟩; have hw2 := hw.symm; clear hw; subst hw2))
  refine wp_loop_rounds 1 ?_
  rw [rounds_succ]
  go_wp2
  go_ret
  exact ⟨_, _, rfl, HB1⟩
set_option maxRecDepth 100000 in
theorem nCurrent (w : World) :
    Calls Try.prog 32 #[.pointer none] w fun e w' => ∃ D cc, e = .returned (.slice D 0 cc) ∧ Hid (Below w.heap.size w w') := by
  obtain ⟨i0, hi, hz0, hz1, hz2⟩ := info_parts info8
  have HI := Lib.hid hi
  have HZ0 := Lib.hid hz0
  have HZ1 := Lib.hid hz1
  have HZ2 := Lib.hid hz2
  clear hi hz0 hz1 hz2
  go_enter Try.func32, Try.ntmps32
  go_wp2_with (first
    | (go_at_call 26; refine (size_nil w).mono ?_; rintro e w' ⟨rfl, hw⟩; have hw2 := hw.symm; clear hw; subst hw2)
    | (at_make; refine wpList_make_own _ rfl _ _ 22 rfl w.heap.size 5 i0 (.int .u8 0) 1 Try.underlying22 HI.out HZ0.out HZ1.out .i64 .u64 0 0 rfl rfl rfl (by rw [HZ2.out]; omega) (by simp [maxLen]) (Nat.le_refl _) ?_; intro w1 ho1 hg1; have HB1 : Hid (Below w.heap.size w w1) := (Below.refl _ _).grown hg1 (Nat.le_refl _) (fun k hk => by cases hk); clear ho1 hg1)
    | (go_at_call 25; refine (lines_nil w1).mono ?_; rintro e w' ⟨rfl, hw⟩; have hw2 := hw.symm; clear hw; subst hw2))
  refine wp_loop_rounds 1 ?_
  rw [rounds_succ]
  go_wp2
  go_ret
  exact ⟨_, _, rfl, HB1⟩
theorem nPersisted (w : World) :
    Calls Try.prog 20 #[.pointer none] w fun e w' => ∃ D cc, e = .returned (.slice D 0 cc) ∧ Hid (Below w.heap.size w w') := by
  go_enter Try.func20, Try.ntmps20
  go_wp2_with (go_at_call 33; refine (nImage w none 0 0).mono ?_; rintro e w' ⟨D, cc, rfl, HB⟩)
  go_ret
  exact ⟨_, _, rfl, HB⟩
theorem nFrom (w : World) (D : Option Addr) (cc : Nat) :
    Calls Try.prog 18 #[.slice D 0 cc] w fun e w' => e = .returned (.tuple #[.pointer none, .int .i64 1]) ∧ w' = w := by
  go_enter Try.func18, Try.ntmps18
  go_wp2_with (go_at_call 14; refine (new_bad w 0 (by omega)).mono ?_; rintro e w' ⟨rfl, rfl⟩)
  go_ret2
  exact ⟨rfl, rfl⟩
theorem nCrash (w : World) (C : Option Addr) (m cap : Nat) :
    Calls Try.prog 34 #[.pointer none, .slice C m cap] w fun e w' => e = .returned (.pointer none) ∧ Hid (Below w.heap.size w w') := by
  go_enter Try.func34, Try.ntmps34
  go_wp2_with (first
    | (go_at_call 33; refine (nImage w C m cap).mono ?_; rintro e w1 ⟨D, cc, rfl, HB⟩)
    | (go_at_call 18; refine (nFrom w1 D cc).mono ?_; rintro e w' ⟨rfl, hw⟩; have hw2 := hw.symm; clear hw; subst hw2))
  go_ret
  exact ⟨rfl, HB⟩
theorem nLoadI (w : World) (x : Int) (h : 0 ≤ x) : Calls Try.prog 36 #[.pointer none, .int .u64 x] w fun r w' => r = .returned (.int .u64 0) ∧ w' = w := by
  obtain ⟨o, rfl⟩ := Int.eq_ofNat_of_zero_le h; exact nLoad w o
theorem nStoreI (w : World) (x y : Int) (h : 0 ≤ x) : Calls Try.prog 22 #[.pointer none, .int .u64 x, .int .u64 y] w fun r w' => r = .returned (.tuple #[]) ∧ w' = w := by
  obtain ⟨o, rfl⟩ := Int.eq_ofNat_of_zero_le h; exact nStore w o y
theorem nFlushI (w : World) (x : Int) (h : 0 ≤ x) : Calls Try.prog 23 #[.pointer none, .int .u64 x] w fun r w' => r = .returned (.tuple #[]) ∧ w' = w := by
  obtain ⟨o, rfl⟩ := Int.eq_ofNat_of_zero_le h; exact nFlush w o
theorem nCASI (w : World) (x y z : Int) (h : 0 ≤ x) : Calls Try.prog 37 #[.pointer none, .int .u64 x, .int .u64 y, .int .u64 z] w fun r w' => r = .returned (.bool false) ∧ w' = w := by
  obtain ⟨o, rfl⟩ := Int.eq_ofNat_of_zero_le h; exact nCAS w o y z
end Go.Proofs.Ytfihjjkdaegjlaa.Dev
