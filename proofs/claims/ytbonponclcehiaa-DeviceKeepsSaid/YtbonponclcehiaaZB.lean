/-
  JOINED TEXTS: DEncode DCurrent DImage DNew DOk DOk2 DAwake.
-/
import Derived.Test.YtbonponclcehiaaZA
set_option linter.unusedVariables false
set_option linter.unusedSimpArgs false
/-
  DEVICE: encode: the bytes of a line's words, appended to a row of the call's own.
-/
namespace Go.Proofs.Ytbonponclcehiaa.Dev
open Go.ChangeShapes Go.WideShapes Go.ChangeAt Go.RowKit Go.Proofs.Ytbonponclcehiaa.Mem Go.Proofs.Ytbonponclcehiaa.Args Go.Proofs.Ytbonponclcehiaa.Own
theorem info8 : (Try.prog.info? 5).map (fun i => (i.zero, i.size, i.bytes)) = some (some (.int .u8 0), 1, 1) := by kernel_rfl
/-- The little-endian bytes of a word. -/
def wbytes (x : Nat) : List Int := [(x : Int) % 256, (x : Int) / 256 % 256, (x : Int) / 65536 % 256, (x : Int) / 16777216 % 256, (x : Int) / 4294967296 % 256, (x : Int) / 1099511627776 % 256, (x : Int) / 281474976710656 % 256, (x : Int) / 72057594037927936]
def lbytes (f : Nat → Nat) (n : Nat) : List Int := (List.range n).flatMap fun j => wbytes (f j)
theorem lbytes_succ (f : Nat → Nat) (n : Nat) : lbytes f (n + 1) = lbytes f n ++ wbytes (f n) := by
  simp [lbytes, List.range_succ, List.flatMap_append]
theorem lbytes_len (f : Nat → Nat) (n : Nat) : (lbytes f n).length = 8 * n := by
  induction n with
  | zero => rfl
  | succ n ih => rw [lbytes_succ, List.length_append, ih]; simp [wbytes]; omega
theorem ix0 (a b c d e f g h : Int) (w : World) : (Instr.index 103 (.agg #[.int .u64 a, .int .u64 b, .int .u64 c, .int .u64 d, .int .u64 e, .int .u64 f, .int .u64 g, .int .u64 h]) (.int .i64 0)).run Try.prog w = .ok (.int .u64 a) w := by kernel_rfl
theorem ix1 (a b c d e f g h : Int) (w : World) : (Instr.index 103 (.agg #[.int .u64 a, .int .u64 b, .int .u64 c, .int .u64 d, .int .u64 e, .int .u64 f, .int .u64 g, .int .u64 h]) (.int .i64 1)).run Try.prog w = .ok (.int .u64 b) w := by kernel_rfl
theorem ix2 (a b c d e f g h : Int) (w : World) : (Instr.index 103 (.agg #[.int .u64 a, .int .u64 b, .int .u64 c, .int .u64 d, .int .u64 e, .int .u64 f, .int .u64 g, .int .u64 h]) (.int .i64 2)).run Try.prog w = .ok (.int .u64 c) w := by kernel_rfl
theorem ix3 (a b c d e f g h : Int) (w : World) : (Instr.index 103 (.agg #[.int .u64 a, .int .u64 b, .int .u64 c, .int .u64 d, .int .u64 e, .int .u64 f, .int .u64 g, .int .u64 h]) (.int .i64 3)).run Try.prog w = .ok (.int .u64 d) w := by kernel_rfl
theorem ix4 (a b c d e f g h : Int) (w : World) : (Instr.index 103 (.agg #[.int .u64 a, .int .u64 b, .int .u64 c, .int .u64 d, .int .u64 e, .int .u64 f, .int .u64 g, .int .u64 h]) (.int .i64 4)).run Try.prog w = .ok (.int .u64 e) w := by kernel_rfl
theorem ix5 (a b c d e f g h : Int) (w : World) : (Instr.index 103 (.agg #[.int .u64 a, .int .u64 b, .int .u64 c, .int .u64 d, .int .u64 e, .int .u64 f, .int .u64 g, .int .u64 h]) (.int .i64 5)).run Try.prog w = .ok (.int .u64 f) w := by kernel_rfl
theorem ix6 (a b c d e f g h : Int) (w : World) : (Instr.index 103 (.agg #[.int .u64 a, .int .u64 b, .int .u64 c, .int .u64 d, .int .u64 e, .int .u64 f, .int .u64 g, .int .u64 h]) (.int .i64 6)).run Try.prog w = .ok (.int .u64 g) w := by kernel_rfl
theorem ix7 (a b c d e f g h : Int) (w : World) : (Instr.index 103 (.agg #[.int .u64 a, .int .u64 b, .int .u64 c, .int .u64 d, .int .u64 e, .int .u64 f, .int .u64 g, .int .u64 h]) (.int .i64 7)).run Try.prog w = .ok (.int .u64 h) w := by kernel_rfl
theorem index8 (f : Nat → Nat) (j : Nat) (hj : j < 8) (w : World) : (Instr.index 103 (.agg #[.int .u64 (f 0 : Int), .int .u64 (f 1 : Int), .int .u64 (f 2 : Int), .int .u64 (f 3 : Int), .int .u64 (f 4 : Int), .int .u64 (f 5 : Int), .int .u64 (f 6 : Int), .int .u64 (f 7 : Int)]) (.int .i64 (j : Int))).run Try.prog w = .ok (.int .u64 (f j : Int)) w := by
  have h : j = 0 ∨ j = 1 ∨ j = 2 ∨ j = 3 ∨ j = 4 ∨ j = 5 ∨ j = 6 ∨ j = 7 := by omega
  rcases h with rfl | rfl | rfl | rfl | rfl | rfl | rfl | rfl
  · exact ix0 (f 0) (f 1) (f 2) (f 3) (f 4) (f 5) (f 6) (f 7) w
  · exact ix1 (f 0) (f 1) (f 2) (f 3) (f 4) (f 5) (f 6) (f 7) w
  · exact ix2 (f 0) (f 1) (f 2) (f 3) (f 4) (f 5) (f 6) (f 7) w
  · exact ix3 (f 0) (f 1) (f 2) (f 3) (f 4) (f 5) (f 6) (f 7) w
  · exact ix4 (f 0) (f 1) (f 2) (f 3) (f 4) (f 5) (f 6) (f 7) w
  · exact ix5 (f 0) (f 1) (f 2) (f 3) (f 4) (f 5) (f 6) (f 7) w
  · exact ix6 (f 0) (f 1) (f 2) (f 3) (f 4) (f 5) (f 6) (f 7) w
  · exact ix7 (f 0) (f 1) (f 2) (f 3) (f 4) (f 5) (f 6) (f 7) w
set_option maxRecDepth 100000 in
theorem encode_any (w : World) (base : Nat) (v : Value) (zs : List Int) (f : Nat → Nat) (h : OwnInts .u8 5 w base v zs) (hl : zs.length ≤ 1000000) (hb : base ≤ w.heap.size) (hf : ∀ j, f j < 18446744073709551616) :
    Calls Try.prog 67 #[v, words8 f] w fun e w' => ∃ v', e = .returned v' ∧ Hid (OwnInts .u8 5 w' base v' (zs ++ lbytes f 8) ∧ Below base w w') := by
  obtain ⟨i0, hi, hz0, hz1, hz2⟩ := info_parts info8
  have HI := Lib.hid hi
  have HZ0 := Lib.hid hz0
  have HZ1 := Lib.hid hz1
  have HZ2 := Lib.hid hz2
  have HO := Lib.hid h
  have HIX := Lib.hid (index8 f)
  have HF := Lib.hid hf
  clear hi hz0 hz1 hz2 h hf
  unfold words8 wordG
  go_enter Try.func67, Try.ntmps67
  go_wp2
  go_loopw [0, 8] (fun p i wr => ∃ j : Nat, j ≤ 8 ∧ i = .int .i64 j ∧ Hid (OwnInts .u8 5 wr base p (zs ++ lbytes f j) ∧ Below base w wr)) (fun _ i _ => 8 - (intOf i).toNat)
  case atStart => exact ⟨0, by omega, rfl, Lib.hid ⟨by simpa [lbytes] using HO.out.alloc _, (Below.refl _ _).alloc hb _⟩⟩
  case round =>
    obtain ⟨j, hj, rfl, HR⟩ := hrel
    by_cases hlt : j < 8
    · have hx := HIX.out j hlt
      have hfj := HF.out j
      generalize hxx : f j = x at *
      have HX := Lib.hid hxx
      clear hxx
      have hj88 : (j : Int) < 8 := by omega
      have hll := lbytes_len f j
      have HLL := Lib.hid hll
      clear hll
      go_wp2_with (at_builtin; refine wpList_app (by simp [Region.wanted, yielded]) (.tmp 11) (.tmp 35) 22 rfl (v := u0) (B := wr.heap.size + 1) (c := 8) (A := some ⟨wr.heap.size, 0, none⟩) (zs := [(x : Int) % 256, (x : Int) / 256 % 256, (x : Int) / 65536 % 256, (x : Int) / 16777216 % 256, (x : Int) / 4294967296 % 256, (x : Int) / 1099511627776 % 256, (x : Int) / 281474976710656 % 256, (x : Int) / 72057594037927936]) Try.underlying22 HI.out HZ0.out HZ1.out HZ2.out rfl rfl (HR.out.1.alloc _) rfl (IntsAt.new .u8 wr 5 (0, 0) _) rfl (by rw [List.length_append, HLL.out]; simp [maxLen]; omega) (by rw [List.length_append, HLL.out]; omega) (Nat.le_trans (Nat.le_trans hb HR.out.2.size) (by simp)) ?_; intro v2 w2 ho2 hg2 ha2; have hb2 := HR.out.2.trans (((Below.refl base wr).alloc (Nat.le_trans hb HR.out.2.size) _).trans ((HR.out.1.alloc _).grownBelow hg2 (Nat.le_trans (Nat.le_trans hb HR.out.2.size) (by simp)))); have HQ := Lib.hid (And.intro ho2 hb2); clear ho2 hg2 ha2 hb2 HR)
      go_roundw
      case rel =>
        refine ⟨j + 1, by omega, by go_num, Lib.hid ⟨?_, HQ.out.2⟩⟩
        rw [lbytes_succ, HX.out, ← List.append_assoc]
        exact HQ.out.1
      case measure => simp [intOf]; omega
    · have hj8 : j = 8 := by omega
      subst hj8
      go_wp2
      go_ret
      exact ⟨_, rfl, HR⟩
end Go.Proofs.Ytbonponclcehiaa.Dev
/-
  DEVICE: Current, Dirty.
-/
namespace Go.Proofs.Ytbonponclcehiaa.Dev
open Go.ChangeShapes Go.WideShapes Go.ChangeAt Go.RowKit Go.Proofs.Ytbonponclcehiaa.Mem Go.Proofs.Ytbonponclcehiaa.Args Go.Proofs.Ytbonponclcehiaa.Own
theorem infoInt : (Try.prog.info? 3).map (fun i => (i.zero, i.size, i.bytes)) = some (some (.int .i64 0), 1, 8) := by kernel_rfl
theorem applyW_lt : ∀ (l : List (Nat × Nat)) (b : Nat → Nat), (∀ j, b j < 18446744073709551616) → (∀ p ∈ l, p.2 < 18446744073709551616) → ∀ j, applyW b l j < 18446744073709551616
  | [], _, hb, _, j => hb j
  | p :: l, b, hb, hp, j => by
    refine applyW_lt l _ (fun j => ?_) (fun q hq => hp q (List.mem_cons_of_mem _ hq)) j
    split
    · exact hp p (List.mem_cons_self ..)
    · exact hb j
theorem St.Ok.applied {S : St} {M : Nat} (h : S.Ok M) (i k j : Nat) : applyW (S.pers i) ((S.hist i).take k) j < 18446744073709551616 :=
  applyW_lt _ _ (h.pers i) (fun p hp => (h.hist i p (List.mem_of_mem_take hp)).2.2.2) j
theorem St.Ok.curLt {S : St} {M : Nat} (h : S.Ok M) (i j : Nat) : S.cur i j < 18446744073709551616 :=
  applyW_lt _ _ (h.pers i) (fun p hp => (h.hist i p hp).2.2.2) j
/-- The contents of the first m lines, each with the first k i stores of its history. -/
def content (S : St) (k : Nat → Nat) (m : Nat) : List Int := (List.range m).flatMap fun i => lbytes (applyW (S.pers i) ((S.hist i).take (k i))) 8
theorem content_succ (S : St) (k : Nat → Nat) (m : Nat) : content S k (m + 1) = content S k m ++ lbytes (applyW (S.pers m) ((S.hist m).take (k m))) 8 := by
  simp [content, List.range_succ, List.flatMap_append]
theorem content_len (S : St) (k : Nat → Nat) (m : Nat) : (content S k m).length = 64 * m := by
  induction m with
  | zero => rfl
  | succ m ih => rw [content_succ, List.length_append, ih, lbytes_len]; omega
def whole (S : St) (i : Nat) : Nat := (S.hist i).length
theorem content_whole (S : St) (m : Nat) : lbytes (applyW (S.pers m) ((S.hist m).take (whole S m))) 8 = lbytes (S.cur m) 8 := by
  unfold whole St.cur; rw [List.take_length]
def dirtyTo (S : St) (m : Nat) : List Nat := (List.range m).filter fun i => decide (0 < (S.hist i).length)
theorem dirtyTo_succ (S : St) (m : Nat) : dirtyTo S (m + 1) = if 0 < (S.hist m).length then dirtyTo S m ++ [m] else dirtyTo S m := by
  unfold dirtyTo
  rw [List.range_succ, List.filter_append]
  by_cases h : 0 < (S.hist m).length <;> simp [h]
theorem dirtyTo_len (S : St) (m : Nat) : (dirtyTo S m).length ≤ m := by
  have := List.length_filter_le (fun i => decide (0 < (S.hist i).length)) (List.range m)
  simpa [dirtyTo] using this
def ints (l : List Nat) : List Int := l.map Int.ofNat
theorem ints_len (l : List Nat) : (ints l).length = l.length := by simp [ints]
theorem ints_snoc (l : List Nat) (x : Nat) : ints (l ++ [x]) = ints l ++ [(x : Int)] := by simp [ints]
set_option maxRecDepth 100000 in
theorem dirty_any (w : World) (base M : Nat) (A : Adr) (S : St) (h : IsDev w base A S) (hS : S.Ok M) :
    Calls Try.prog 30 #[.pointer (some ⟨A.d, 0, none⟩)] w fun e w' => ∃ v', e = .returned v' ∧ Hid (OwnInts .i64 3 w' w.heap.size v' (ints (dirtyTo S S.n)) ∧ Below w.heap.size w w') := by
  obtain ⟨i0, hi, hz0, hz1, hz2⟩ := info_parts infoInt
  have HI := Lib.hid hi
  have HZ0 := Lib.hid hz0
  have HZ1 := Lib.hid hz1
  have HZ2 := Lib.hid hz2
  have HD := Lib.hid h
  have HL := Lib.hid (lines_any w A S h.db)
  obtain ⟨n, hn⟩ : ∃ n, S.n = n := ⟨_, rfl⟩
  have hn1 := hS.n1
  rw [hn] at hn1 HL ⊢
  have HN := Lib.hid hn
  clear hi hz0 hz1 hz2 h hS hn
  go_enter Try.func30, Try.ntmps30
  go_wp2_with (go_at_call 25; refine HL.out.mono ?_; rintro e w' ⟨rfl, hw⟩; have hw2 := hw.symm; clear hw; subst hw2)
  go_loopw [3, 7] (fun v i wr => ∃ k : Nat, k ≤ n ∧ i = .int .i64 k ∧ Hid (OwnInts .i64 3 wr w.heap.size v (ints (dirtyTo S k)) ∧ Below w.heap.size w wr)) (fun _ i _ => n - (intOf i).toNat)
  case atStart => exact ⟨0, by omega, rfl, Lib.hid ⟨OwnInts.nil_ _ _ _ _, Below.refl _ _⟩⟩
  case round =>
    obtain ⟨k, hk, rfl, HR⟩ := hrel
    by_cases hlt : k < n
    · have I1 := HD.out.below HR.out.2 (Nat.le_refl _)
      have c0 := I1.db.c0
      have ch := I1.lines.cell (o := k * 18 + 16) (by have := HN.out; omega)
      rw [linesG_hist] at ch
      obtain ⟨a, c, hv⟩ := hist_slice (I1.hist k (by have := HN.out; omega))
      rw [hv] at ch
      rw [HN.out] at c0
      have HSU := Lib.hid (dirtyTo_succ S k)
      have hkl : (k : Int) < (n : Int) := by omega
      have hdl := dirtyTo_len S k
      generalize hlen : (S.hist k).length = m at *
      clear hv I1 hlen
      by_cases h0 : 0 < m
      · have h0i : (0 : Int) < (m : Int) := by omega
        have HEQ := Lib.hid (HSU.out.trans (if_pos h0))
        have hdl2 := Lib.hid hdl
        clear hdl
        go_wp2_with (at_builtin; refine wpList_app (by simp [Region.wanted, yielded]) (.tmp 20) (.tmp 22) 45 rfl (v := u3) (B := wr.heap.size + 1) (c := 1) (A := some ⟨wr.heap.size, 0, none⟩) (zs := [(k : Int)]) Try.underlying45 HI.out HZ0.out HZ1.out HZ2.out rfl rfl (HR.out.1.alloc _) rfl (IntsAt.new .i64 wr 3 (0, 0) _) rfl (by have := hdl2.out; rw [ints_len]; simp [maxLen]; omega) (by have := hdl2.out; rw [ints_len]; simp; omega) (Nat.le_trans HR.out.2.size (by simp)) ?_; intro v2 w2 ho2 hg2 ha2; have hb2 := HR.out.2.trans (((Below.refl w.heap.size wr).alloc HR.out.2.size _).trans ((HR.out.1.alloc _).grownBelow hg2 (Nat.le_trans HR.out.2.size (by simp)))); have HQ := Lib.hid (And.intro ho2 hb2); clear ho2 hg2 ha2 hb2 HR)
        go_roundw
        case rel => exact ⟨k + 1, by omega, by go_num, Lib.hid ⟨by rw [HEQ.out, ints_snoc]; exact HQ.out.1, HQ.out.2⟩⟩
        case measure => simp [intOf]; omega
      · have h0i : ¬ (0 : Int) < (m : Int) := by omega
        have HEQ := Lib.hid (HSU.out.trans (if_neg h0))
        go_wp2
        go_roundw
        case rel => exact ⟨k + 1, by omega, by go_num, Lib.hid ⟨by rw [HEQ.out]; exact HR.out.1, HR.out.2⟩⟩
        case measure => simp [intOf]; omega
    · have hk : k = n := by omega
      subst hk
      go_wp2
      go_ret
      exact ⟨_, rfl, HR⟩
theorem dirty_nil (w : World) : Calls Try.prog 30 #[.pointer none] w fun e w' => e = .returned (.slice none 0 0) ∧ w' = w := by
  go_enter Try.func30, Try.ntmps30
  go_wp2_with (go_at_call 25; refine (lines_nil w).mono ?_; rintro e w' ⟨rfl, rfl⟩)
  refine wp_loop_rounds 1 ?_
  rw [rounds_succ]
  go_wp2
  go_ret
  exact ⟨rfl, rfl⟩
set_option maxRecDepth 100000 in
theorem current_any (w : World) (base M : Nat) (A : Adr) (S : St) (h : IsDev w base A S) (hS : S.Ok M) :
    Calls Try.prog 32 #[.pointer (some ⟨A.d, 0, none⟩)] w fun e w' => ∃ v', e = .returned v' ∧ Hid (OwnInts .u8 5 w' w.heap.size v' (content S (whole S) S.n) ∧ Below w.heap.size w w') := by
  obtain ⟨i0, hi, hz0, hz1, hz2⟩ := info_parts info8
  have HI := Lib.hid hi
  have HZ0 := Lib.hid hz0
  have HZ1 := Lib.hid hz1
  have HZ2 := Lib.hid hz2
  have HD := Lib.hid h
  have HSS := Lib.hid hS
  have HL := fun w' (hw : w'.heap.size = w'.heap.size) (h' : DB w' A S) => Lib.hid (lines_any w' A S h')
  have HSz := Lib.hid (size_any w A S h.db hS.n1)
  obtain ⟨n, hn⟩ : ∃ n, S.n = n := ⟨_, rfl⟩
  have hn1 := hS.n1
  rw [hn] at hn1 HSz ⊢
  have HN := Lib.hid hn
  clear hi hz0 hz1 hz2 h hS hn HL
  obtain ⟨z, hz⟩ : ∃ z, n * 64 = z := ⟨_, rfl⟩
  have hz2 : z ≤ 262144 := by omega
  rw [hz] at HSz
  clear hz
  go_enter Try.func32, Try.ntmps32
  go_wp2_with (first
    | (go_at_call 26; refine HSz.out.mono ?_; rintro e w' ⟨rfl, hw⟩; have hw2 := hw.symm; clear hw; subst hw2)
    | (at_make; refine wpList_make_own _ rfl _ _ 22 rfl w.heap.size 5 i0 (.int .u8 0) 1 Try.underlying22 HI.out HZ0.out HZ1.out .i64 .u64 (z : Int) z rfl rfl rfl (by rw [HZ2.out]; omega) (by simp [maxLen]; omega) (Nat.le_refl _) ?_; intro w1 ho1 hg1; have HB1 : Hid (Below w.heap.size w w1) := (Below.refl _ _).grown hg1 (Nat.le_refl _) (fun k hk => by cases hk); have HO1 := Lib.hid (show OwnInts .u8 5 w1 w.heap.size _ [] from ho1); clear ho1 hg1)
    | (go_at_call 25; refine (lines_any w1 A S (HD.out.below HB1.out (Nat.le_refl _)).db).mono ?_; rintro e w' ⟨he, hw⟩; rw [HN.out] at he; subst he; have hw2 := hw.symm; clear hw; subst hw2))
  go_loopw [3, 10] (fun v i wr => ∃ k : Nat, k ≤ n ∧ i = .int .i64 k ∧ Hid (OwnInts .u8 5 wr w.heap.size v (content S (whole S) k) ∧ Below w.heap.size w wr)) (fun _ i _ => n - (intOf i).toNat)
  case atStart => exact ⟨0, by omega, rfl, Lib.hid ⟨HO1.out, HB1.out⟩⟩
  case round =>
    obtain ⟨k, hk, rfl, HR⟩ := hrel
    by_cases hlt : k < n
    · have I1 := HD.out.below HR.out.2 (Nat.le_refl _)
      have c0 := I1.db.c0
      rw [HN.out] at c0
      have hkl : (k : Int) < (n : Int) := by omega
      have hkS : k < S.n := by rw [HN.out]; exact hlt
      have d0 := I1.cCur (k := k) (p := 0) hkS (by decide)
      have d1 := I1.cCur (k := k) (p := 1) hkS (by decide)
      have d2 := I1.cCur (k := k) (p := 2) hkS (by decide)
      have d3 := I1.cCur (k := k) (p := 3) hkS (by decide)
      have d4 := I1.cCur (k := k) (p := 4) hkS (by decide)
      have d5 := I1.cCur (k := k) (p := 5) hkS (by decide)
      have d6 := I1.cCur (k := k) (p := 6) hkS (by decide)
      have d7 := I1.cCur (k := k) (p := 7) hkS (by decide)
      rw [Nat.add_zero] at d0
      have HE := Lib.hid (encode_any wr w.heap.size u3 (content S (whole S) k) (S.cur k) HR.out.1 (by rw [content_len]; omega) HR.out.2.size (HSS.out.curLt k))
      unfold words8 wordG at HE
      clear I1 hkS
      go_wp2_with (go_at_call 67; refine HE.out.mono ?_; rintro e w2 ⟨v2, rfl, HQ⟩)
      go_roundw
      case rel => exact ⟨k + 1, by omega, by go_num, Lib.hid ⟨by rw [content_succ, content_whole]; exact HQ.out.1, HR.out.2.trans HQ.out.2⟩⟩
      case measure => simp [intOf]; omega
    · have hk : k = n := by omega
      subst hk
      go_wp2
      go_ret
      exact ⟨_, rfl, HR⟩
end Go.Proofs.Ytbonponclcehiaa.Dev
/-
  DEVICE: Image, Persisted.
-/
namespace Go.Proofs.Ytbonponclcehiaa.Dev
open Go.ChangeShapes Go.WideShapes Go.ChangeAt Go.RowKit Go.Proofs.Ytbonponclcehiaa.Mem Go.Proofs.Ytbonponclcehiaa.Args Go.Proofs.Ytbonponclcehiaa.Own
/-- How many stores of line i the choice selects. -/
def pickOf (S : St) (ch : List Int) (i : Nat) : Nat := if 0 < (S.hist i).length ∧ 0 < ch.length then (ch.getD ((dirtyTo S i).length % ch.length) 0).toNat % ((S.hist i).length + 1) else 0
theorem pickOf_le (S : St) (ch : List Int) (i : Nat) : pickOf S ch i ≤ (S.hist i).length := by
  unfold pickOf
  split
  · have := Nat.mod_lt (ch.getD ((dirtyTo S i).length % ch.length) 0).toNat (show 0 < (S.hist i).length + 1 by omega)
    omega
  · omega
def count (S : St) (ch : List Int) (i : Nat) : Nat := if 0 < ch.length then (dirtyTo S i).length else 0
set_option maxRecDepth 100000 in
set_option maxHeartbeats 1000000 in
theorem image_any (w : World) (base M : Nat) (A : Adr) (S : St) (C : Option Addr) (m cap B : Nat) (ch : List Int) (h : IsDev w base A S) (hS : S.Ok M) (hM : M ≤ 1000000) (hl : ch.length = m) (hmm : m ≤ 140737488351232) (hr : IntsAt .u8 w B C ch) (hB : B ≤ w.heap.size) (hw : ∀ z ∈ ch, 0 ≤ z ∧ z ≤ 255) :
    Calls Try.prog 33 #[.pointer (some ⟨A.d, 0, none⟩), .slice C m cap] w fun e w' => ∃ v', e = .returned v' ∧ Hid (OwnInts .u8 5 w' w.heap.size v' (content S (pickOf S ch) S.n) ∧ Below w.heap.size w w') := by
  obtain ⟨i0, hi, hz0, hz1, hz2⟩ := info_parts info8
  have HI := Lib.hid hi
  have HZ0 := Lib.hid hz0
  have HZ1 := Lib.hid hz1
  have HZ2 := Lib.hid hz2
  have HD := Lib.hid h
  have HSS := Lib.hid hS
  have HSz := Lib.hid (size_any w A S h.db hS.n1)
  obtain ⟨n, hn⟩ : ∃ n, S.n = n := ⟨_, rfl⟩
  have hn1 := hS.n1
  rw [hn] at hn1 HSz ⊢
  have HN := Lib.hid hn
  have HLE := Lib.hid hl
  have HRR := Lib.hid hr
  have HWW := Lib.hid hw
  clear hi hz0 hz1 hz2 h hS hn hl hr hw
  obtain ⟨z, hz⟩ : ∃ z, n * 64 = z := ⟨_, rfl⟩
  have hz2 : z ≤ 262144 := by omega
  rw [hz] at HSz
  clear hz
  go_enter Try.func33, Try.ntmps33
  go_wp2_with (first
    | (go_at_call 26; refine HSz.out.mono ?_; rintro e w' ⟨rfl, hw⟩; have hw2 := hw.symm; clear hw; subst hw2)
    | (at_make; refine wpList_make_own _ rfl _ _ 22 rfl w.heap.size 5 i0 (.int .u8 0) 1 Try.underlying22 HI.out HZ0.out HZ1.out .i64 .u64 (z : Int) z rfl rfl rfl (by rw [HZ2.out]; omega) (by simp [maxLen]; omega) (Nat.le_refl _) ?_; intro w1 ho1 hg1; have HB1 : Hid (Below w.heap.size w w1) := (Below.refl _ _).grown hg1 (Nat.le_refl _) (fun k hk => by cases hk); have HO1 := Lib.hid (show OwnInts .u8 5 w1 w.heap.size _ [] from ho1); clear ho1 hg1)
    | (go_at_call 25; refine (lines_any w1 A S (HD.out.below HB1.out (Nat.le_refl _)).db).mono ?_; rintro e w' ⟨he, hw⟩; rw [HN.out] at he; subst he; have hw2 := hw.symm; clear hw; subst hw2))
  go_loopw [5, 6, 15] (fun v dd i wr => ∃ k : Nat, k ≤ n ∧ i = .int .i64 k ∧ dd = .int .i64 (count S ch k : Int) ∧ Hid (OwnInts .u8 5 wr w.heap.size v (content S (pickOf S ch) k) ∧ Below w.heap.size w wr)) (fun _ _ i _ => n - (intOf i).toNat)
  case atStart => exact ⟨0, by omega, rfl, by simp [count, dirtyTo], Lib.hid ⟨HO1.out, HB1.out⟩⟩
  case round =>
    obtain ⟨k, hk, rfl, rfl, HR⟩ := hrel
    by_cases hlt : k < n
    · have I1 := HD.out.below HR.out.2 (Nat.le_refl _)
      have HI1 := Lib.hid I1
      have c0 := I1.db.c0
      rw [HN.out] at c0
      have hkl : (k : Int) < (n : Int) := by omega
      have hkS : k < S.n := by rw [HN.out]; exact hlt
      have ch16 := I1.lines.cell (o := k * 18 + 16) (by omega)
      rw [linesG_hist] at ch16
      obtain ⟨a, c, hv⟩ := hist_slice (I1.hist k hkS)
      rw [hv] at ch16
      have hsum := HSS.out.sum k
      have hdl := dirtyTo_len S k
      have HAF := fun w2 (hb : Below wr.heap.size wr w2) => Lib.hid (after_any w2 A.lb (S.n * 18) (k * 18) (pickOf S ch k) w.heap.size (A.hv k) (S.pers k) (S.hist k) (linesG A S))
      have HCS := Lib.hid (content_succ S (pickOf S ch) k)
      have HDS := Lib.hid (dirtyTo_succ S k)
      have HPK := Lib.hid (show pickOf S ch k = _ from rfl)
      clear I1 HAF
      have fin : Hid (∀ (w2 : World), Below wr.heap.size wr w2 → Calls Try.prog 68 #[.pointer (some ⟨A.lb, k * 18, none⟩), .int .i64 (pickOf S ch k : Int)] w2 fun e w' => e = .returned (words8 (applyW (S.pers k) ((S.hist k).take (pickOf S ch k)))) ∧ Below w2.heap.size w2 w') := fun w2 hb => by
        have I2 := HI1.out.below hb (Nat.le_refl _)
        exact after_any w2 A.lb (S.n * 18) (k * 18) (pickOf S ch k) base (A.hv k) (S.pers k) (S.hist k) (linesG A S) I2.lines (by omega) (fun j hj => linesG_pers _ _ _ _ hj) (linesG_hist _ _ _) (I2.hist k hkS) (pickOf_le _ _ _) (HSS.out.fine k)
      have enc : Hid (∀ (w2 : World), Below wr.heap.size wr w2 → Calls Try.prog 67 #[u5, words8 (applyW (S.pers k) ((S.hist k).take (pickOf S ch k)))] w2 fun e w' => ∃ v', e = .returned v' ∧ Hid (OwnInts .u8 5 w' w.heap.size v' (content S (pickOf S ch) (k + 1)) ∧ Below w.heap.size w2 w')) := fun w2 hb => by
        have := encode_any w2 w.heap.size u5 (content S (pickOf S ch) k) (applyW (S.pers k) ((S.hist k).take (pickOf S ch k))) (HR.out.1.below hb) (by rw [content_len]; omega) (Nat.le_trans HR.out.2.size hb.size) (HSS.out.applied k _)
        rw [← HCS.out] at this
        exact this
      by_cases h0 : 0 < (S.hist k).length
      · by_cases h1 : 0 < m
        · have h1l : 0 < ch.length := by rw [HLE.out]; exact h1
          obtain ⟨x, hx⟩ : ∃ x, (dirtyTo S k).length % m = x := ⟨_, rfl⟩
          have hxm : x < m := by rw [← hx]; exact Nat.mod_lt _ h1
          have hcnt : count S ch k = (dirtyTo S k).length := by unfold count; rw [if_pos h1l]
          have hcnt2 : count S ch (k + 1) = count S ch k + 1 := by rw [hcnt]; unfold count; rw [if_pos h1l, dirtyTo_succ, if_pos h0, List.length_append]; rfl
          obtain ⟨ad, hC, hadb, hcell0⟩ := HRR.out x (by rw [HLE.out]; exact hxm)
          have hcell := (HR.out.2.cell (p := ad.add x) (by rw [add_block]; omega)).trans hcell0
          have hbr := HWW.out (ch.getD x 0) (by rw [getD_at (by rw [HLE.out]; exact hxm)]; exact List.getElem_mem _)
          obtain ⟨b, hb⟩ : ∃ b : Nat, ch.getD x 0 = (b : Int) := ⟨(ch.getD x 0).toNat, by omega⟩
          rw [hb] at hcell hbr
          have hpk : pickOf S ch k = b % ((S.hist k).length + 1) := by
            unfold pickOf
            rw [if_pos ⟨h0, h1l⟩, HLE.out, hx, hb]; rfl
          rw [hcnt]
          have HCN := Lib.hid hcnt2
          have HC1 := Lib.hid hcnt
          rw [hpk] at fin enc
          subst hC
          have hLM : (S.hist k).length ≤ 1000000 := by omega
          generalize hd : (dirtyTo S k).length = d at *
          generalize hL : (S.hist k).length = L at *
          have hLM2 : L ≤ 1000000 := by first | exact hLM | omega
          obtain ⟨pk, hpk2⟩ : ∃ pk, b % (L + 1) = pk := ⟨_, rfl⟩
          have hpkb : pk ≤ L := by have := Nat.mod_lt b (show 0 < L + 1 by omega); omega
          rw [hpk2] at fin enc
          have hb255 : b ≤ 255 := by omega
          have hwb : IntKind.i64.wrap (b : Int) = (b : Int) := IntWalk.i64_in _ ⟨by omega, by omega⟩
          have hmd : (d : Int) % (m : Int) = (x : Int) := by rw [← hx]; simp
          have htm : (d : Int).tmod (m : Int) = (x : Int) := by rw [Int.tmod_eq_emod_of_nonneg (by omega)]; exact hmd
          have hL1 : IntKind.i64.wrap ((L : Int) + 1) = (L : Int) + 1 := IntWalk.i64_in _ ⟨by omega, by omega⟩
          have hmp : (b : Int) % ((L : Int) + 1) = (pk : Int) := by rw [← hpk2]; simp
          have htp : (b : Int).tmod ((L : Int) + 1) = (pk : Int) := by rw [Int.tmod_eq_emod_of_nonneg (by omega)]; exact hmp
          have hx0 : (0 : Int) ≤ (x : Int) := by omega
          have hxmi : (x : Int) < (m : Int) := by omega
          have hwx : IntKind.i64.wrap (x : Int) = (x : Int) := IntWalk.i64_in _ ⟨by omega, by omega⟩
          have hpk0 : (0 : Int) ≤ (pk : Int) := by omega
          have hwp : IntKind.i64.wrap (pk : Int) = (pk : Int) := IntWalk.i64_in _ ⟨by omega, by omega⟩
          have h0i : (0 : Int) < (L : Int) := by omega
          have h1i : (0 : Int) < (m : Int) := by omega
          have hL0 : (0 : Int) ≤ (L : Int) + 1 := by omega
          have hm0 : ((m : Int) == 0) = false := by simp; omega
          have hLz : ((L : Int) + 1 == 0) = false := by simp; omega
          have hd1 : d ≤ 4096 := by omega
          clear hcnt hcnt2 hv hpk hpk2 hx hd hL hb hbr hcell0 h1l
          go_wp2
          go_quiet (fail)
          go_wp2_with (first
            | (go_at_call 68; refine (fin.out _ (below_drewN _ _ _)).mono ?_; rintro e w2 ⟨rfl, hb2⟩; have HB2 := Lib.hid ((below_drewN _ _ _).trans hb2); clear hb2)
            | (go_at_call 67; refine (enc.out _ HB2.out).mono ?_; rintro e w3 ⟨v3, rfl, HQ⟩))
          go_roundw
          case rel => exact ⟨k + 1, by omega, by go_num, by rw [HCN.out, HC1.out]; go_num, Lib.hid ⟨HQ.out.1, (HR.out.2.trans (HB2.out.mono HR.out.2.size)).trans HQ.out.2⟩⟩
          case measure => simp [intOf]; omega
        · have hm0 : m = 0 := by omega
          have hpk0 : pickOf S ch k = 0 := by unfold pickOf; rw [if_neg (fun h => h1 (by rw [← HLE.out]; exact h.2))]
          have hcnt : count S ch (k + 1) = count S ch k := by unfold count; rw [if_neg (by rw [HLE.out]; exact h1), if_neg (by rw [HLE.out]; exact h1)]
          have HCN := Lib.hid hcnt
          rw [hpk0] at fin enc
          have h1i : ¬ (0 : Int) < (m : Int) := by omega
          have h0i : (0 : Int) < ((S.hist k).length : Int) := by omega
          clear hcnt hv hpk0 h0 hm0
          generalize count S ch k = cc at *
          generalize S.hist k = hsk at *
          go_wp2_with (first
            | (go_at_call 68; refine (fin.out _ (Below.refl _ _)).mono ?_; rintro e w2 ⟨rfl, hb2⟩; have HB2 := Lib.hid hb2; clear hb2)
            | (go_at_call 67; refine (enc.out _ HB2.out).mono ?_; rintro e w3 ⟨v3, rfl, HQ⟩))
          go_roundw
          case rel => exact ⟨k + 1, by omega, by go_num, by rw [HCN.out], Lib.hid ⟨HQ.out.1, (HR.out.2.trans (HB2.out.mono HR.out.2.size)).trans HQ.out.2⟩⟩
          case measure => simp [intOf]; omega
      · have hp0 : pickOf S ch k = 0 := by unfold pickOf; rw [if_neg (fun h => h0 h.1)]
        have hcnt : count S ch (k + 1) = count S ch k := by unfold count; rw [dirtyTo_succ, if_neg h0]
        have HCN := Lib.hid hcnt
        rw [hp0] at fin enc
        have h00 : (S.hist k).length = 0 := by omega
        rw [h00] at ch16
        clear hcnt hv hp0 h0 h00
        generalize count S ch k = cc at *
        generalize S.hist k = hsk at *
        go_wp2_with (first
          | (go_at_call 68; refine (fin.out _ (Below.refl _ _)).mono ?_; rintro e w2 ⟨rfl, hb2⟩; have HB2 := Lib.hid hb2; clear hb2)
          | (go_at_call 67; refine (enc.out _ HB2.out).mono ?_; rintro e w3 ⟨v3, rfl, HQ⟩))
        go_roundw
        case rel => exact ⟨k + 1, by omega, by go_num, by rw [HCN.out], Lib.hid ⟨HQ.out.1, (HR.out.2.trans (HB2.out.mono HR.out.2.size)).trans HQ.out.2⟩⟩
        case measure => simp [intOf]; omega
    · have hk : k = n := by omega
      subst hk
      go_wp2
      go_ret
      exact ⟨_, rfl, HR⟩
theorem pickOf_nil (S : St) : pickOf S [] = fun _ => 0 := by
  funext i
  unfold pickOf
  rw [if_neg (fun h => by simp at h)]
theorem persisted_any (w : World) (base M : Nat) (A : Adr) (S : St) (h : IsDev w base A S) (hS : S.Ok M) (hM : M ≤ 1000000) :
    Calls Try.prog 20 #[.pointer (some ⟨A.d, 0, none⟩)] w fun e w' => ∃ v', e = .returned v' ∧ Hid (OwnInts .u8 5 w' w.heap.size v' (content S (fun _ => 0) S.n) ∧ Below w.heap.size w w') := by
  have HI := Lib.hid (image_any w base M A S none 0 0 w.heap.size [] h hS hM rfl (by omega) IntsAt.nil_ (Nat.le_refl _) (by simp))
  rw [pickOf_nil] at HI
  clear h hS
  go_enter Try.func20, Try.ntmps20
  go_wp2_with (go_at_call 33; refine HI.out.mono ?_; rintro e w1 ⟨v, rfl, HQ⟩)
  go_ret
  exact ⟨_, rfl, HQ⟩
end Go.Proofs.Ytbonponclcehiaa.Dev
/-
  DEVICE: New.
-/
namespace Go.Proofs.Ytbonponclcehiaa.Dev
open Go.ChangeShapes Go.WideShapes Go.ChangeAt Go.RowKit Go.Proofs.Ytbonponclcehiaa.Mem Go.Proofs.Ytbonponclcehiaa.Args Go.Proofs.Ytbonponclcehiaa.Own
/-- A new device: zeros. -/
def St.new (n : Nat) : St := { n := n, pers := fun _ _ => 0, hist := fun _ => [], gone := fun _ => 0, notes := fun _ => [], err := fun _ => 0, ex := 0, off := false, left := none }
theorem St.new_ok (n : Nat) (h0 : 1 ≤ n) (h1 : n ≤ 4096) : (St.new n).Ok 0 :=
  ⟨h0, h1, fun _ _ => by simp [St.new], fun _ p hp => by simp [St.new] at hp, fun _ => by simp [St.new], Nat.le_refl _, fun _ => by simp [St.new], fun m hm => by simp [St.new] at hm, fun _ p hp => by simp [St.new] at hp, fun _ => by simp [St.new], fun _ => by simp [St.new]⟩
theorem infoLine : (Try.prog.info? 106).map (fun i => (i.zero, i.size, i.bytes)) = some (some (.agg #[.int .u64 0, .int .u64 0, .int .u64 0, .int .u64 0, .int .u64 0, .int .u64 0, .int .u64 0, .int .u64 0, .int .u64 0, .int .u64 0, .int .u64 0, .int .u64 0, .int .u64 0, .int .u64 0, .int .u64 0, .int .u64 0, .slice none 0 0, .int .u64 0]), 18, 160) := by kernel_rfl
/-- The device's cells when k threads are made. -/
def newG (d lb n k o : Nat) : Value :=
  if o = 0 then .slice (some ⟨lb, 0, none⟩) n n
  else if o < 33 then
    (if (o - 1) % 4 = 0 then .pointer (if (o - 1) / 4 < k then some ⟨d, 0, none⟩ else none) else if (o - 1) % 4 = 1 then .int .i64 ((if (o - 1) / 4 < k then (o - 1) / 4 else 0 : Nat) : Int)
     else if (o - 1) % 4 = 2 then .int .i64 0 else .map none)
  else if o = 33 then .int .u64 0 else if o = 34 then .bool false else if o = 35 then .bool false else .int .i64 0
theorem newG_blk (w : World) (d lb n : Nat) (T : TypeId) (hd : w.heap.size = d) : Blk (w.alloc (.cells #[Value.slice (some ⟨lb, 0, none⟩) n n, Value.pointer none, Value.int .i64 0, Value.int .i64 0, Value.map none, Value.pointer none, Value.int .i64 0, Value.int .i64 0, Value.map none, Value.pointer none, Value.int .i64 0, Value.int .i64 0, Value.map none, Value.pointer none, Value.int .i64 0, Value.int .i64 0, Value.map none, Value.pointer none, Value.int .i64 0, Value.int .i64 0, Value.map none, Value.pointer none, Value.int .i64 0, Value.int .i64 0, Value.map none, Value.pointer none, Value.int .i64 0, Value.int .i64 0, Value.map none, Value.pointer none, Value.int .i64 0, Value.int .i64 0, Value.map none, Value.int .u64 0, Value.bool false, Value.bool false, Value.int .i64 0] T)) d T 37 (newG d lb n 0) := by
  subst hd
  refine Blk.newOf w _ T rfl fun o ho => ?_
  match o, ho with
  | 0, _ => rfl
  | 1, _ => rfl
  | 2, _ => rfl
  | 3, _ => rfl
  | 4, _ => rfl
  | 5, _ => rfl
  | 6, _ => rfl
  | 7, _ => rfl
  | 8, _ => rfl
  | 9, _ => rfl
  | 10, _ => rfl
  | 11, _ => rfl
  | 12, _ => rfl
  | 13, _ => rfl
  | 14, _ => rfl
  | 15, _ => rfl
  | 16, _ => rfl
  | 17, _ => rfl
  | 18, _ => rfl
  | 19, _ => rfl
  | 20, _ => rfl
  | 21, _ => rfl
  | 22, _ => rfl
  | 23, _ => rfl
  | 24, _ => rfl
  | 25, _ => rfl
  | 26, _ => rfl
  | 27, _ => rfl
  | 28, _ => rfl
  | 29, _ => rfl
  | 30, _ => rfl
  | 31, _ => rfl
  | 32, _ => rfl
  | 33, _ => rfl
  | 34, _ => rfl
  | 35, _ => rfl
  | 36, _ => rfl
  | o + 37, h => exact absurd h (by omega)
theorem newG_step (w : World) (d lb n k : Nat) (T : TypeId) (hk : k < 8) (h : Blk w d T 37 (newG d lb n k)) :
    Blk ((((w.setCell ⟨d, 1 + k * 4, none⟩ (.pointer (some ⟨d, 0, none⟩))).setCell ⟨d, 1 + k * 4 + 1, none⟩ (.int .i64 (k : Int))).setCell ⟨d, 1 + k * 4 + 2, none⟩ (.int .i64 0)).setCell ⟨d, 1 + k * 4 + 3, none⟩ (.map none)) d T 37 (newG d lb n (k + 1)) := by
  refine ((((h.set (1 + k * 4) _).set (1 + k * 4 + 1) _).set (1 + k * 4 + 2) _).set (1 + k * 4 + 3) _).ext fun o ho => ?_
  by_cases e3 : o = 1 + k * 4 + 3
  · subst e3; rw [upd_same]; unfold newG
    rw [if_neg (by omega), if_pos (by omega), if_neg (by omega), if_neg (by omega), if_neg (by omega)]
  · rw [upd_other _ _ e3]
    by_cases e2 : o = 1 + k * 4 + 2
    · subst e2; rw [upd_same]; unfold newG
      rw [if_neg (by omega), if_pos (by omega), if_neg (by omega), if_neg (by omega), if_pos (by omega)]
    · rw [upd_other _ _ e2]
      by_cases e1 : o = 1 + k * 4 + 1
      · subst e1; rw [upd_same]; unfold newG
        rw [if_neg (by omega), if_pos (by omega), if_neg (by omega), if_pos (by omega), if_pos (by omega), show (1 + k * 4 + 1 - 1) / 4 = k by omega]
      · rw [upd_other _ _ e1]
        by_cases e0 : o = 1 + k * 4
        · subst e0; rw [upd_same]; unfold newG
          rw [if_neg (by omega), if_pos (by omega), if_pos (by omega), if_pos (by omega)]
        · rw [upd_other _ _ e0]
          unfold newG
          by_cases k1 : o = 0
          · simp only [k1, if_true]
          · by_cases k2 : o < 33
            · have k3 : ((o - 1) / 4 < k + 1) = ((o - 1) / 4 < k) := by
                apply propext; constructor <;> intro h <;> omega
              simp only [k3]
            · simp only [k2, if_false]
theorem zline_cells : (Value.agg #[.int .u64 0, .int .u64 0, .int .u64 0, .int .u64 0, .int .u64 0, .int .u64 0, .int .u64 0, .int .u64 0, .int .u64 0, .int .u64 0, .int .u64 0, .int .u64 0, .int .u64 0, .int .u64 0, .int .u64 0, .int .u64 0, .slice none 0 0, .int .u64 0]).cells = #[.int .u64 0, .int .u64 0, .int .u64 0, .int .u64 0, .int .u64 0, .int .u64 0, .int .u64 0, .int .u64 0, .int .u64 0, .int .u64 0, .int .u64 0, .int .u64 0, .int .u64 0, .int .u64 0, .int .u64 0, .int .u64 0, .slice none 0 0, .int .u64 0] := by simp [Value.cells]
theorem zline_at (m o : Nat) (ho : o < m) : (madeCells #[Value.int .u64 0, .int .u64 0, .int .u64 0, .int .u64 0, .int .u64 0, .int .u64 0, .int .u64 0, .int .u64 0, .int .u64 0, .int .u64 0, .int .u64 0, .int .u64 0, .int .u64 0, .int .u64 0, .int .u64 0, .int .u64 0, .slice none 0 0, .int .u64 0] m).toList[o]? = some (if o % 18 = 16 then .slice none 0 0 else .int .u64 0) := by
  have key : ∀ r, r < 18 → (#[Value.int .u64 0, .int .u64 0, .int .u64 0, .int .u64 0, .int .u64 0, .int .u64 0, .int .u64 0, .int .u64 0, .int .u64 0, .int .u64 0, .int .u64 0, .int .u64 0, .int .u64 0, .int .u64 0, .int .u64 0, .int .u64 0, .slice none 0 0, .int .u64 0] : Array Value)[r]! = if r = 16 then .slice none 0 0 else .int .u64 0 := by
    intro r hr
    match r, hr with
    | 0, _ => rfl
    | 1, _ => rfl
    | 2, _ => rfl
    | 3, _ => rfl
    | 4, _ => rfl
    | 5, _ => rfl
    | 6, _ => rfl
    | 7, _ => rfl
    | 8, _ => rfl
    | 9, _ => rfl
    | 10, _ => rfl
    | 11, _ => rfl
    | 12, _ => rfl
    | 13, _ => rfl
    | 14, _ => rfl
    | 15, _ => rfl
    | 16, _ => rfl
    | 17, _ => rfl
    | r + 18, h => exact absurd h (by omega)
  have h1 := key (o % 18) (by omega)
  simp only [madeCells, Array.toList_map, List.getElem?_map, Array.toList_range]
  rw [List.getElem?_range (by simpa using ho)]
  simp only [Option.map_some, List.size_toArray, List.length_cons, List.length_nil]
  rw [show (0 + 1 + 1 + 1 + 1 + 1 + 1 + 1 + 1 + 1 + 1 + 1 + 1 + 1 + 1 + 1 + 1 + 1 + 1 : Nat) = 18 from rfl, h1]
set_option maxRecDepth 100000 in
theorem new_any (w : World) (n : Nat) (h0 : 1 ≤ n) (h1 : n ≤ 4096) :
    Calls Try.prog 14 #[.int .i64 (n : Int)] w fun e w' => ∃ A : Adr, e = .returned (.tuple #[.pointer (some ⟨A.d, 0, none⟩), .int .i64 0]) ∧ Hid (IsDev w' w.heap.size A (St.new n) ∧ Below w.heap.size w w') := by
  obtain ⟨i0, hi, hz0, hz1, hz2⟩ := info_parts infoLine
  have HI := Lib.hid hi
  have HZ0 := Lib.hid hz0
  have HZ1 := Lib.hid hz1
  have HZ2 := Lib.hid hz2
  have h2 : ¬ (n : Int) < 1 := by omega
  have h3 : ¬ (4096 : Int) < (n : Int) := by omega
  clear hi hz0 hz1 hz2
  go_enter Try.func14, Try.ntmps14
  go_wp2_with (at_make; refine wpList_make_full _ rfl _ _ 92 rfl w.heap.size 106 i0 _ 18 Try.underlying92 HI.out HZ0.out HZ1.out .i64 .i64 (n : Int) (n : Int) n rfl rfl rfl rfl (by rw [HZ2.out]; omega) (by simp [maxLen]; omega) (Nat.le_refl _) ?_; intro w1 ho1 hg1; have HO1 := Lib.hid ho1; have HG1 := Lib.hid hg1; clear ho1 hg1)
  obtain ⟨d, hd⟩ : ∃ d, w1.heap.size = d := ⟨_, rfl⟩
  rw [hd]
  have HB0 := Lib.hid (newG_blk w1 d w.heap.size n 98 hd)
  have HDD := Lib.hid hd
  have hwd : w.heap.size < d := by
    have := HO1.out.lt w.heap.size rfl
    omega
  clear hd
  go_loopw [16] (fun i wr => ∃ k : Nat, k ≤ 8 ∧ i = .int .i64 k ∧ Hid (Blk wr d 98 37 (newG d w.heap.size n k) ∧ Only (fun b => b = d) w1 wr)) (fun i _ => 8 - (intOf i).toNat)
  case atStart => exact ⟨0, by omega, rfl, Lib.hid ⟨HB0.out, (Only.refl _ _).alloc _⟩⟩
  case round =>
    obtain ⟨k, hk, rfl, HR⟩ := hrel
    by_cases hlt : k < 8
    · have hk8 : (k : Int) < 8 := by omega
      have c0 := HR.out.1.cell (o := 1 + k * 4 + 0) (by omega)
      have z0 := HR.out.1.frozen (1 + k * 4 + 0)
      have c1 := HR.out.1.cell (o := 1 + k * 4 + 1) (by omega)
      have z1 := HR.out.1.frozen (1 + k * 4 + 1)
      have c2 := HR.out.1.cell (o := 1 + k * 4 + 2) (by omega)
      have z2 := HR.out.1.frozen (1 + k * 4 + 2)
      have c3 := HR.out.1.cell (o := 1 + k * 4 + 3) (by omega)
      have z3 := HR.out.1.frozen (1 + k * 4 + 3)
      rw [Nat.add_zero] at c0 z0
      have HS := Lib.hid (newG_step wr d w.heap.size n k 98 hlt HR.out.1)
      go_wp2
      go_roundw
      case rel => exact ⟨k + 1, by omega, by go_num, Lib.hid ⟨HS.out, ((((HR.out.2.set _ _ (.inl rfl)).set _ _ (.inl rfl)).set _ _ (.inl rfl)).set _ _ (.inl rfl))⟩⟩
      case measure => simp [intOf]; omega
    · have hk8 : k = 8 := by omega
      subst hk8
      go_wp2
      go_ret2
      refine ⟨⟨d, w.heap.size, fun _ => .slice none 0 0, fun _ => none⟩, rfl, Lib.hid ⟨⟨?_, ?_, fun i hi => Hist.nil_ _ _, fun t ht => .inl ⟨rfl, rfl⟩, ?_, Nat.le_of_lt hwd, Nat.le_refl _⟩, ?_⟩⟩
      · refine HR.out.1.ext fun o ho => ?_
        unfold devG newG
        by_cases k1 : o = 0
        · simp [k1, St.new]
        · by_cases k2 : o < 33
          · simp [k1, k2, St.new, show (o - 1) / 4 < 8 by omega]
          · simp [k1, k2, St.new]
      · rcases HO1.out.2 with ⟨h, _⟩ | ⟨g, cap, cur, h, _, hg, _, _, hsz, htk⟩
        · cases h
        · simp only [Value.slice.injEq, Option.some.injEq, Addr.mk.injEq, and_true] at h
          obtain ⟨e1, _, e3⟩ := h
          subst e1 e3
          have hg2 : wr.heap[w.heap.size]? = some (.cells cur 106 (0, 0)) := by
            rw [HR.out.2.block _ (Array.getElem?_eq_some_iff.1 hg).1 (by omega)]; exact hg
          refine ⟨cur, hg2, hsz, fun o ho => ?_⟩
          have ho' : o < n * 18 := ho
          have h4 : (cur.toList.take (n * 18))[o]? = _ := congrArg (·[o]?) htk
          rw [List.getElem?_take, if_pos ho', Array.getElem?_toList, zline_cells, zline_at _ _ ho'] at h4
          rw [h4]
          unfold linesG
          by_cases k1 : o % 18 < 8
          · rw [if_pos k1, if_neg (by omega)]; rfl
          · by_cases k2 : o % 18 < 16
            · rw [if_neg k1, if_pos k2, if_neg (by omega)]; rfl
            · by_cases k3 : o % 18 = 16
              · rw [if_neg k1, if_neg k2, if_pos k3, if_pos k3]
              · rw [if_neg k1, if_neg k2, if_neg k3, if_neg k3]; rfl
      · refine ⟨?_, fun i hi h => ?_, fun i hi h => ?_, fun i j hi hj hne b h => ?_, fun t ht h => ?_, fun t ht h => ?_, fun t i ht hi b h => ?_, fun t u ht hu hne b h => ?_⟩
        · show d ≠ w.heap.size
          omega
        all_goals cases h
      · exact ((Below.refl _ _).grown HG1.out (Nat.le_refl _) (fun k hk => by cases hk)).trans (HR.out.2.below HG1.out.size (fun b hb => by rw [hb]; omega))
theorem new_bad (w : World) (n : Int) (h : n < 1 ∨ 4096 < n) :
    Calls Try.prog 14 #[.int .i64 n] w fun e w' => e = .returned (.tuple #[.pointer none, .int .i64 1]) ∧ w' = w := by
  rcases h with h | h
  · go_enter Try.func14, Try.ntmps14
    go_wp2
    go_ret2
    exact ⟨rfl, rfl⟩
  · have h1 : ¬ n < 1 := by omega
    go_enter Try.func14, Try.ntmps14
    go_wp2
    go_ret2
    exact ⟨rfl, rfl⟩
end Go.Proofs.Ytbonponclcehiaa.Dev
/-
  DEVICE: what every operation keeps of a state's bounds.
-/
namespace Go.Proofs.Ytbonponclcehiaa.Dev
namespace St
theorem Ok.more {S : St} {M N : Nat} (h : S.Ok M) (hMN : M ≤ N) : S.Ok N :=
  { h with sum := fun i => Nat.le_trans (h.sum i) hMN, ex := Nat.le_trans h.ex hMN }
theorem setErr_ok {S : St} {M : Nat} (h : S.Ok M) (t e : Nat) (he : e ≤ 3) : (S.setErr t e).Ok M :=
  { h with
    err := fun u => by
      show (if u = t ∧ S.err t = 0 then e else S.err u) ≤ 3
      split
      · exact he
      · exact h.err u }
theorem mayS_ok {S : St} {M : Nat} (h : S.Ok M) (t : Nat) (v : Bool) : (S.mayS t v).Ok M := by
  unfold mayS
  split
  · exact setErr_ok h t 3 (by omega)
  · split
    · exact h
    · exact setErr_ok h t 2 (by omega)
theorem tk_ok {S : St} {M : Nat} (h : S.Ok M) : S.tk.Ok (M + 1) := by
  unfold tk
  split
  · exact { h.more (Nat.le_succ M) with }
  · exact {
      h.more (Nat.le_succ M) with
      ex := by have := h.ex; show S.ex + 1 ≤ M + 1; omega
      left := fun m hm => by
        have hm : S.left.map (· - 1) = some m := hm
        cases hl : S.left with
        | none => rw [hl] at hm; cases hm
        | some x => rw [hl] at hm; have := h.left x hl; simp at hm; omega }
theorem cntS_ok {S : St} {M : Nat} (h : S.Ok M) (t : Nat) (v : Bool) : (S.cntS t v).Ok (M + 1) := by
  unfold cntS
  split
  · exact (setErr_ok h t 3 (by omega)).more (Nat.le_succ M)
  · split
    · split
      · exact setErr_ok (tk_ok h) t 3 (by omega)
      · exact tk_ok h
    · exact (setErr_ok h t 2 (by omega)).more (Nat.le_succ M)
theorem put_ok {S : St} {M : Nat} (h : S.Ok M) (o x : Nat) (h8 : o % 8 = 0) (ho : o < S.n * 64) (hx : x < 18446744073709551616) : (S.put o x).Ok (M + 1) :=
  { h with
    hist := fun i p hp => by
      have hp : p ∈ (if i = o / 64 then S.hist i ++ [(o, x)] else S.hist i) := hp
      split at hp
      · rename_i hi
        rcases List.mem_append.1 hp with hp | hp
        · exact h.hist i p hp
        · obtain rfl := List.mem_singleton.1 hp
          exact ⟨hi.symm, h8, ho, hx⟩
      · exact h.hist i p hp
    sum := fun i => by
      have := h.sum i
      show S.gone i + (if i = o / 64 then S.hist i ++ [(o, x)] else S.hist i).length ≤ M + 1
      split
      · rw [List.length_append]; simp; omega
      · omega
    ex := Nat.le_trans h.ex (Nat.le_succ M)
    note := fun t p hp => by
      have := h.note t p hp
      refine ⟨this.1, Nat.le_trans this.2 ?_⟩
      show S.gone p.1 + _ ≤ S.gone p.1 + (if p.1 = o / 64 then S.hist p.1 ++ [(o, x)] else S.hist p.1).length
      split
      · rw [List.length_append]; omega
      · omega }
theorem cnt_v {S : St} {v : Bool} (h : S.cnt v = true) : v = true := by
  unfold cnt at h; cases v <;> simp_all
theorem storeS_ok {S : St} {M : Nat} (h : S.Ok M) (t o x : Nat) (hx : x < 18446744073709551616) : (S.storeS t o x).Ok (M + 2) := by
  unfold storeS
  split
  · rename_i hc
    have hw := cnt_v hc
    unfold isW at hw
    simp only [Bool.and_eq_true, decide_eq_true_eq] at hw
    exact put_ok (cntS_ok h t _) o x hw.1 (by rw [cntS_n]; exact hw.2) hx
  · exact (cntS_ok h t _).more (by omega)
theorem storeS_n (S : St) (t o x : Nat) : (S.storeS t o x).n = S.n := by
  unfold storeS
  split
  · exact cntS_n S t _
  · exact cntS_n S t _
end St
end Go.Proofs.Ytbonponclcehiaa.Dev
/-
  DEVICE: the bounds are kept by every operation (each adds 2 at most to the bound of the counts).
-/
namespace Go.Proofs.Ytbonponclcehiaa.Dev
namespace St
theorem loadS_ok {S : St} {M : Nat} (h : S.Ok M) (t o : Nat) : (S.loadS t o).Ok M := mayS_ok h t _
theorem casS_ok {S : St} {M : Nat} (h : S.Ok M) (t o old x : Nat) (hx : x < 18446744073709551616) : (S.casS t o old x).Ok (M + 2) := by
  unfold casS
  split
  · rename_i hc
    have hw : S.cnt (S.isW o) = true := by unfold cas at hc; simp only [Bool.and_eq_true] at hc; exact hc.1
    have hw := cnt_v hw
    unfold isW at hw
    simp only [Bool.and_eq_true, decide_eq_true_eq] at hw
    exact put_ok (cntS_ok h t _) o x hw.1 (by rw [cntS_n]; exact hw.2) hx
  · exact (cntS_ok h t _).more (by omega)
theorem casS_n (S : St) (t o old x : Nat) : (S.casS t o old x).n = S.n := by
  unfold casS
  split
  · exact cntS_n S t _
  · exact cntS_n S t _
theorem loadS_n (S : St) (t o : Nat) : (S.loadS t o).n = S.n := by
  unfold loadS mayS
  split
  · rfl
  · split <;> rfl
/-- Keys that differ and are below n: at most n of them. -/
theorem keys_le (l : List (Nat × Nat)) (n : Nat) (hk : l.Pairwise fun p q => p.1 ≠ q.1) (hb : ∀ p ∈ l, p.1 < n) : l.length ≤ n := by
  induction n generalizing l with
  | zero =>
    cases l with
    | nil => exact Nat.le_refl _
    | cons p l => exact absurd (hb p List.mem_cons_self) (by omega)
  | succ n ih =>
    by_cases hp : ∃ p ∈ l, p.1 = n
    · obtain ⟨p, hp, e⟩ := hp
      obtain ⟨l1, l2, rfl⟩ := List.append_of_mem hp
      obtain ⟨k1, k2, k3⟩ := List.pairwise_append.1 hk
      obtain ⟨k4, k5⟩ := List.pairwise_cons.1 k2
      have := ih (l1 ++ l2) (List.pairwise_append.2 ⟨k1, k5, fun a ha b hb => k3 a ha b (List.mem_cons_of_mem _ hb)⟩) (fun q hq => by
        have h1 : q ∈ l1 ++ p :: l2 := by
          rcases List.mem_append.1 hq with h | h
          · exact List.mem_append_left _ h
          · exact List.mem_append_right _ (List.mem_cons_of_mem _ h)
        have h2 := hb q h1
        have h3 : q.1 ≠ n := by
          rcases List.mem_append.1 hq with h | h
          · have := k3 q h p List.mem_cons_self
            rw [e] at this; exact this
          · have := k4 q h
            rw [e] at this; exact fun e2 => this e2.symm
        omega)
      rw [List.length_append] at this ⊢
      rw [List.length_cons]
      omega
    · have := ih l hk (fun q hq => by
        have h2 := hb q hq
        have h3 : q.1 ≠ n := fun e => hp ⟨q, hq, e⟩
        omega)
      omega
theorem tk_same (S : St) : S.tk.hist = S.hist ∧ S.tk.gone = S.gone ∧ S.tk.notes = S.notes ∧ S.tk.pers = S.pers := by
  unfold tk tickS
  split <;> exact ⟨rfl, rfl, rfl, rfl⟩
theorem cnt_cntS {S : St} {t : Nat} {v : Bool} : (S.cntS t v).hist = S.hist ∧ (S.cntS t v).gone = S.gone ∧ (S.cntS t v).notes = S.notes ∧ (S.cntS t v).pers = S.pers := by
  unfold cntS
  split
  · exact ⟨rfl, rfl, rfl, rfl⟩
  · split
    · split <;> exact tk_same S
    · exact ⟨rfl, rfl, rfl, rfl⟩
theorem note_ok {S : St} {M : Nat} (h : S.Ok M) (t l a : Nat) (hl : l < S.n) (ha : a ≤ S.gone l + (S.hist l).length) : (S.note t l a).Ok M := by
  have hN : ∀ u, ∀ p ∈ (S.note t l a).notes u, p.1 < S.n ∧ p.2 ≤ S.gone p.1 + (S.hist p.1).length := fun u p hp => by
    have hp : p ∈ (if u = t then (S.notes t).filter (fun p => p.1 != l) ++ [(l, a)] else S.notes u) := hp
    split at hp
    · rcases List.mem_append.1 hp with hp | hp
      · exact h.note t p (List.mem_filter.1 hp).1
      · obtain rfl := List.mem_singleton.1 hp
        exact ⟨hl, ha⟩
    · exact h.note u p hp
  have hK : ∀ u, ((S.note t l a).notes u).Pairwise fun p q => p.1 ≠ q.1 := fun u => by
    show (if u = t then (S.notes t).filter (fun p => p.1 != l) ++ [(l, a)] else S.notes u).Pairwise _
    split
    · refine List.pairwise_append.2 ⟨(h.keys t).filter _, List.pairwise_singleton _ _, fun p hp q hq => ?_⟩
      obtain rfl := List.mem_singleton.1 hq
      have := (List.mem_filter.1 hp).2
      simpa using this
    · exact h.keys u
  exact { h with note := hN, keys := hK, cnt := fun u => Nat.le_trans (keys_le _ S.n (hK u) fun p hp => (hN u p hp).1) h.n1 }
theorem flushS_ok {S : St} {M : Nat} (h : S.Ok M) (t o : Nat) : (S.flushS t o).Ok (M + 2) := by
  unfold flushS
  split
  · rename_i hc
    have hw := cnt_v hc
    unfold flushV at hw
    have hw := of_decide_eq_true hw
    obtain ⟨e1, e2, _, _⟩ := cnt_cntS (S := S) (t := t) (v := S.flushV o)
    exact (note_ok (cntS_ok h t _) t (o / 64) _ (by rw [cntS_n]; omega) (by rw [e1, e2]; exact Nat.le_refl _)).more (by omega)
  · exact (cntS_ok h t _).more (by omega)
theorem flushS_n (S : St) (t o : Nat) : (S.flushS t o).n = S.n := by
  unfold flushS
  split
  · exact cntS_n S t _
  · exact cntS_n S t _
theorem pstF_ok {S : St} {M : Nat} (h : S.Ok M) (f : Nat → Nat) (hf : ∀ i, f i ≤ (S.hist i).length) : (S.pstF f).Ok M :=
  { h with
    pers := fun i j => by
      have : ∀ (l : List (Nat × Nat)) (g : Nat → Nat), (∀ j, g j < 18446744073709551616) → (∀ p ∈ l, p.2 < 18446744073709551616) → ∀ j, applyW g l j < 18446744073709551616 := applyW_lt
      exact this _ _ (h.pers i) (fun p hp => (h.hist i p (List.mem_of_mem_take hp)).2.2.2) j
    hist := fun i p hp => h.hist i p (List.mem_of_mem_drop hp)
    sum := fun i => by
      have h1 := h.sum i
      have h2 := hf i
      show S.gone i + f i + ((S.hist i).drop (f i)).length ≤ M
      rw [List.length_drop]; omega
    note := fun t p hp => by
      have h1 := h.note t p hp
      have h2 := hf p.1
      refine ⟨h1.1, ?_⟩
      show p.2 ≤ S.gone p.1 + f p.1 + ((S.hist p.1).drop (f p.1)).length
      rw [List.length_drop]; omega }
theorem clr_ok {S : St} {M : Nat} (h : S.Ok M) (t : Nat) : (S.clr t).Ok M :=
  { h with
    note := fun u p hp => by
      have hp : p ∈ (if u = t then [] else S.notes u) := hp
      split at hp
      · cases hp
      · exact h.note u p hp
    keys := fun u => by
      show (if u = t then [] else S.notes u).Pairwise _
      split
      · exact List.Pairwise.nil
      · exact h.keys u
    cnt := fun u => by
      show (if u = t then [] else S.notes u).length ≤ 4096
      split
      · simp
      · exact h.cnt u }
theorem kof_le {S : St} {M : Nat} (h : S.Ok M) (t i : Nat) : S.kof (S.notes t) i ≤ (S.hist i).length := by
  unfold kof
  split
  · rename_i p hp
    have h1 := List.mem_of_find?_eq_some hp
    have h2 := List.find?_some hp
    have h3 : p.1 = i := by simpa using h2
    have h4 := (h.note t p h1).2
    rw [h3] at h4
    omega
  · omega
theorem fenceS_ok {S : St} {M : Nat} (h : S.Ok M) (t : Nat) : (S.fenceS t).Ok (M + 2) := by
  unfold fenceS
  split
  · obtain ⟨e1, e2, _, _⟩ := cnt_cntS (S := S) (t := t) (v := true)
    refine (clr_ok (pstF_ok (cntS_ok h t true) _ fun i => ?_) t).more (by omega)
    rw [e1]
    exact kof_le h t i
  · exact (cntS_ok h t _).more (by omega)
theorem fenceS_n (S : St) (t : Nat) : (S.fenceS t).n = S.n := by
  unfold fenceS
  split
  · exact cntS_n S t _
  · exact cntS_n S t _
theorem pst_eq (S : St) (l k : Nat) : S.pst l k = S.pstF (fun i => if i = l then k else 0) := by
  unfold pst pstF
  congr 1
  · funext i; by_cases hi : i = l <;> simp [hi, applyW]
  · funext i; by_cases hi : i = l <;> simp [hi]
  · funext i; by_cases hi : i = l <;> simp [hi]
theorem wbS_ok {S : St} {M : Nat} (h : S.Ok M) (l k : Int) : (S.wbS l k).Ok M := by
  unfold wbS
  split
  · rename_i hc
    unfold wb at hc
    simp only [Bool.and_eq_true, decide_eq_true_eq] at hc
    rw [pst_eq]
    refine pstF_ok h _ fun i => ?_
    by_cases hi : i = l.toNat
    · subst hi; simp only [if_true]; omega
    · rw [if_neg hi]; omega
  · exact h
theorem wbS_n (S : St) (l k : Int) : (S.wbS l k).n = S.n := by
  unfold wbS; split <;> rfl
theorem armS_ok {S : St} {M : Nat} (h : S.Ok M) (m : Int) (hm : m ≤ 9223372036854775807) : (S.armS m).Ok M := by
  unfold armS
  split
  · exact h
  · exact {
      h with
      left := fun x hx => by
        have hx : (if 0 ≤ m then some m.toNat else none) = some x := hx
        split at hx
        · have := Option.some.inj hx; omega
        · cases hx }
theorem armS_n (S : St) (m : Int) : (S.armS m).n = S.n := by
  unfold armS; split <;> rfl
end St
end Go.Proofs.Ytbonponclcehiaa.Dev
/-
  THE LAWS' 'awake': the chapter's example; it answers true.
-/
namespace Go.Proofs.Ytbonponclcehiaa.Dev
open Go.ChangeShapes Go.WideShapes Go.ChangeAt Go.RowKit Go.Proofs.Ytbonponclcehiaa.Mem Go.Proofs.Ytbonponclcehiaa.Args Go.Proofs.Ytbonponclcehiaa.Own
theorem Step.belowOf {w0 w w' : World} {A : Adr} {S S' : St} (h : Step w w' w0.heap.size A S S') (hd : IsDev w w0.heap.size A S) (hb : Below w0.heap.size w0 w) : Below w0.heap.size w0 w' := by
  obtain ⟨A', a1, a2, a3, a4, a5⟩ := h
  exact hb.trans (a4.below hb.size (fun b hbb => hd.baseLe b hbb))
def A1 : St := (St.new 2).storeS 0 0 1
def A2 : St := A1.storeS 0 8 2
def A3 : St := A2.storeS 0 64 3
theorem A1_ok : A1.Ok 2 := St.storeS_ok (St.new_ok 2 (by omega) (by omega)) 0 0 1 (by omega)
theorem A2_ok : A2.Ok 4 := St.storeS_ok A1_ok 0 8 2 (by omega)
theorem A3_ok : A3.Ok 6 := St.storeS_ok A2_ok 0 64 3 (by omega)
theorem A3_n : A3.n = 2 := by unfold A3 A2 A1; rw [St.storeS_n, St.storeS_n, St.storeS_n]; rfl
theorem A3_c0 : (content A3 (pickOf A3 [1]) A3.n).getD 0 0 = 1 := by decide +kernel
theorem A3_c8 : (content A3 (pickOf A3 [1]) A3.n).getD 8 0 = 0 := by decide +kernel
theorem A3_c64 : (content A3 (pickOf A3 [1]) A3.n).getD 64 0 = 3 := by decide +kernel
theorem A3_len : (content A3 (pickOf A3 [1]) A3.n).length = 128 := by rw [content_len, A3_n]
theorem A3_load : A3.load 8 = 2 := by decide +kernel
def DevAt (w0 w : World) (d : Nat) (S : St) : Prop := ∃ A : Adr, A.d = d ∧ IsDev w w0.heap.size A S ∧ Below w0.heap.size w0 w
theorem DevAt.alloc {w0 w : World} {d : Nat} {S : St} (h : DevAt w0 w d S) (o : Obj) : DevAt w0 (w.alloc o) d S := by
  obtain ⟨A, hd, hi, hb⟩ := h
  exact ⟨A, hd, hi.below ((Below.refl _ _).alloc (Nat.le_refl _) o) (Nat.le_refl _), hb.trans ((Below.refl _ _).alloc hb.size o)⟩
theorem thr0 (w : World) (d : Nat) : Calls Try.prog 17 #[.pointer (some ⟨d, 0, none⟩), .int .i64 0] w fun r w' => r = .returned (.pointer (some ⟨d, 1, none⟩)) ∧ w' = w := thread_any w d 0 (by omega)
theorem st_step {w0 w : World} {d M : Nat} {S : St} (o x : Nat) (h : DevAt w0 w d S) (hS : S.Ok M) (hM : M ≤ 1000) (ho : o < 18446744073709551616) :
    Calls Try.prog 22 #[.pointer (some ⟨d, 1, none⟩), .int .u64 (o : Int), .int .u64 (x : Int)] w fun r w' => r = .returned (.tuple #[]) ∧ Hid (DevAt w0 w' d (S.storeS 0 o x)) := by
  obtain ⟨A, hd, hi, hb⟩ := h
  subst hd
  refine (store_thread_any w w0.heap.size (M + 1) A S 0 o x hi (hS.more (by omega)) (St.cntS_ok hS _ _) (by omega) (by omega) ho hb.size).mono ?_
  rintro r w' ⟨e, hs⟩
  obtain ⟨A', a1, a2, a3, a4, a5⟩ := hs.out
  exact ⟨e, Lib.hid ⟨A', a1, a3, hb.trans (a4.below hb.size (fun b hbb => hi.baseLe b hbb))⟩⟩
theorem ld_step {w0 w : World} {d : Nat} (h : DevAt w0 w d A3) :
    Calls Try.prog 36 #[.pointer (some ⟨d, 1, none⟩), .int .u64 8] w fun r w' => r = .returned (.int .u64 2) ∧ Hid (Below w0.heap.size w0 w') := by
  obtain ⟨A, hd, hi, hb⟩ := h
  subst hd
  refine (load_any w w0.heap.size 6 A A3 0 8 hi A3_ok (by omega) (by omega)).mono ?_
  rintro r w' ⟨e, hs⟩
  rw [A3_load] at e
  obtain ⟨A', a1, a2, a3, a4, a5⟩ := hs.out
  exact ⟨e, Lib.hid (hb.trans (a4.below hb.size (fun b hbb => hi.baseLe b hbb)))⟩
theorem own_addr {k : IntKind} {e : TypeId} {w : World} {base : Nat} {v : Value} {zs : List Int} (h : OwnInts k e w base v zs) (hn : 0 < zs.length) : ∃ g cap, v = .slice (some ⟨g, 0, none⟩) zs.length cap ∧ base ≤ g ∧ g < w.heap.size := by
  rcases h.2 with ⟨_, h0⟩ | ⟨g, cap, cur, rfl, hb, hg, _⟩
  · omega
  · exact ⟨g, cap, rfl, hb, (Array.getElem?_eq_some_iff.1 hg).1⟩
theorem im_step {w0 w : World} {d : Nat} (h : DevAt w0 w d A3) (B : Nat) (C : Option Addr) (hB : B ≤ w.heap.size) (hr : IntsAt .u8 w B C [1]) :
    Calls Try.prog 33 #[.pointer (some ⟨d, 0, none⟩), .slice C 1 1] w fun e w' => ∃ g cc, e = .returned (.slice (some ⟨g, 0, none⟩) 128 cc) ∧ Hid ((w'.cell? ⟨g, 0, none⟩ = some (.int .u8 1) ∧ w'.cell? ⟨g, 8, none⟩ = some (.int .u8 0) ∧ w'.cell? ⟨g, 64, none⟩ = some (.int .u8 3)) ∧ DevAt w0 w' d A3) := by
  obtain ⟨A, hd, hi, hb⟩ := h
  subst hd
  refine (image_any w w0.heap.size 6 A A3 C 1 1 B [1] hi A3_ok (by omega) rfl (by omega) hr hB (by simp)).mono ?_
  rintro r w' ⟨v, e, hs⟩
  obtain ⟨g, c, e1, _, _⟩ := own_addr hs.out.1 (by rw [A3_len]; omega)
  have ho := hs.out.1
  rw [e1] at ho
  rw [A3_len] at e1
  have c0 := (ho.cell 0 (by rw [A3_len]; omega)).1
  have c8 := (ho.cell 8 (by rw [A3_len]; omega)).1
  have c64 := (ho.cell 64 (by rw [A3_len]; omega)).1
  rw [A3_c0] at c0
  rw [A3_c8] at c8
  rw [A3_c64] at c64
  subst e1
  exact ⟨g, c, e, Lib.hid ⟨⟨c0, c8, c64⟩, A, rfl, hi.below hs.out.2 (Nat.le_refl _), hb.trans (hs.out.2.mono hb.size)⟩⟩
set_option maxRecDepth 100000 in
theorem awake_any (W : World) : Calls Try.prog 12 #[] W fun e W' => e = .returned (.bool true) ∧ Hid (Below W.heap.size W W') := by
  have HN : Hid (Calls Try.prog 14 #[.int .i64 2] W fun e w' => ∃ d : Nat, e = .returned (.tuple #[.pointer (some ⟨d, 0, none⟩), .int .i64 0]) ∧ Hid (DevAt W w' d (St.new 2))) := Lib.hid (by
    refine (new_any W 2 (by omega) (by omega)).mono ?_
    rintro r w' ⟨A, e, hs⟩
    exact ⟨A.d, e, Lib.hid ⟨A, rfl, hs.out.1, hs.out.2⟩⟩)
  go_enter Try.func12, Try.ntmps12
  go_wp2_with (first
    | (go_at_call 14; refine HN.out.mono ?_; rintro e w1 ⟨d, rfl, H1⟩)
    | (go_at_call 17; refine (thr0 w1 d).mono ?_; rintro e w' ⟨rfl, hw⟩; have hw2 := hw.symm; clear hw; subst hw2)
    | (go_at_call 22; refine (st_step (w := w1) 0 1 H1.out (St.new_ok 2 (by omega) (by omega)) (by omega) (by omega)).mono ?_; rintro e w2 ⟨rfl, H2⟩; clear H1)
    | (go_at_call 22; refine (st_step (w := w2) 8 2 H2.out A1_ok (by omega) (by omega)).mono ?_; rintro e w3 ⟨rfl, H3⟩; clear H2)
    | (go_at_call 22; refine (st_step (w := w3) 64 3 H3.out A2_ok (by omega) (by omega)).mono ?_; rintro e w4 ⟨rfl, H4⟩; clear H3)
    | (go_at_call 33; refine (im_step (w0 := W) (w := w4.alloc (.cells #[.int .u8 1] 5)) (H4.out.alloc _) (w4.heap.size + 1) (some ⟨w4.heap.size, 0, none⟩) (by simp) (IntsAt.new .u8 w4 5 (0, 0) [1])).mono ?_; rintro e w5 ⟨g, cc, rfl, H5⟩; clear H4; obtain ⟨⟨c0, c8, c64⟩, H6⟩ := H5.out; clear H5; have H7 := Lib.hid (ld_step H6); clear H6)
    | (go_at_call 36; refine H7.out.mono ?_; rintro e w6 ⟨rfl, H8⟩))
  go_ret
  exact ⟨rfl, H8⟩
end Go.Proofs.Ytbonponclcehiaa.Dev
