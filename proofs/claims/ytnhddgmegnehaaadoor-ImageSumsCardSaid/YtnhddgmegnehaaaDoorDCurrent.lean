/-
  DEVICE: Current, Dirty.
-/
import Derived.Test.YtnhddgmegnehaaaDoorDEncode
set_option linter.unusedVariables false
set_option linter.unusedSimpArgs false
namespace Go.Proofs.YtnhddgmegnehaaaDoor.Dev
open Go.ChangeShapes Go.WideShapes Go.ChangeAt Go.RowKit Go.Proofs.YtnhddgmegnehaaaDoor.Mem Go.Proofs.YtnhddgmegnehaaaDoor.Args Go.Proofs.YtnhddgmegnehaaaDoor.Own
theorem infoInt : (Tryd.prog.info? 3).map (fun i => (i.zero, i.size, i.bytes)) = some (some (.int .i64 0), 1, 8) := by kernel_rfl
theorem applyW_lt : ∀ (l : List (Nat × Nat)) (b : Nat → Nat), (∀ j, b j < 18446744073709551616) → (∀ p ∈ l, p.2 < 18446744073709551616) → ∀ j, applyW b l j < 18446744073709551616
  | [], _, hb, _, j => hb j
  | p :: l, b, hb, hp, j => by
    refine applyW_lt l _ (fun j => ?_) (fun q hq => hp q (List.mem_cons_of_mem _ hq)) j
    split
    · exact hp p (List.mem_cons_self ..)
    · exact hb j
theorem St.Ok.applied {S : St} {M : Nat} (h : S.Ok M) (i k j : Nat) : applyW (S.pers i) ((S.hist i).take k) j < 18446744073709551616 :=
  applyW_lt _ _ (h.pers i) (fun p hp => (h.hist i p (List.mem_of_mem_take hp)).2.2.2) j
theorem St.Ok.curLt {S : St} {M : Nat} (h : S.Ok M) (i j : Nat) : S.cur i j < 18446744073709551616 :=
  applyW_lt _ _ (h.pers i) (fun p hp => (h.hist i p hp).2.2.2) j
/-- The contents of the first m lines, each with the first k i stores of its history. -/
def content (S : St) (k : Nat → Nat) (m : Nat) : List Int := (List.range m).flatMap fun i => lbytes (applyW (S.pers i) ((S.hist i).take (k i))) 8
theorem content_succ (S : St) (k : Nat → Nat) (m : Nat) : content S k (m + 1) = content S k m ++ lbytes (applyW (S.pers m) ((S.hist m).take (k m))) 8 := by
  simp [content, List.range_succ, List.flatMap_append]
theorem content_len (S : St) (k : Nat → Nat) (m : Nat) : (content S k m).length = 64 * m := by
  induction m with
  | zero => rfl
  | succ m ih => rw [content_succ, List.length_append, ih, lbytes_len]; omega
def whole (S : St) (i : Nat) : Nat := (S.hist i).length
theorem content_whole (S : St) (m : Nat) : lbytes (applyW (S.pers m) ((S.hist m).take (whole S m))) 8 = lbytes (S.cur m) 8 := by
  unfold whole St.cur; rw [List.take_length]
def dirtyTo (S : St) (m : Nat) : List Nat := (List.range m).filter fun i => decide (0 < (S.hist i).length)
theorem dirtyTo_succ (S : St) (m : Nat) : dirtyTo S (m + 1) = if 0 < (S.hist m).length then dirtyTo S m ++ [m] else dirtyTo S m := by
  unfold dirtyTo
  rw [List.range_succ, List.filter_append]
  by_cases h : 0 < (S.hist m).length <;> simp [h]
theorem dirtyTo_len (S : St) (m : Nat) : (dirtyTo S m).length ≤ m := by
  have := List.length_filter_le (fun i => decide (0 < (S.hist i).length)) (List.range m)
  simpa [dirtyTo] using this
def ints (l : List Nat) : List Int := l.map Int.ofNat
theorem ints_len (l : List Nat) : (ints l).length = l.length := by simp [ints]
theorem ints_snoc (l : List Nat) (x : Nat) : ints (l ++ [x]) = ints l ++ [(x : Int)] := by simp [ints]
set_option maxRecDepth 100000 in
theorem dirty_any (w : World) (base M : Nat) (A : Adr) (S : St) (h : IsDev w base A S) (hS : S.Ok M) :
    Calls Tryd.prog 31 #[.pointer (some ⟨A.d, 0, none⟩)] w fun e w' => ∃ v', e = .returned v' ∧ Hid (OwnInts .i64 3 w' w.heap.size v' (ints (dirtyTo S S.n)) ∧ Below w.heap.size w w') := by
  obtain ⟨i0, hi, hz0, hz1, hz2⟩ := info_parts infoInt
  have HI := Lib.hid hi
  have HZ0 := Lib.hid hz0
  have HZ1 := Lib.hid hz1
  have HZ2 := Lib.hid hz2
  have HD := Lib.hid h
  have HL := Lib.hid (lines_any w A S h.db)
  obtain ⟨n, hn⟩ : ∃ n, S.n = n := ⟨_, rfl⟩
  have hn1 := hS.n1
  rw [hn] at hn1 HL ⊢
  have HN := Lib.hid hn
  clear hi hz0 hz1 hz2 h hS hn
  go_enter Tryd.func31, Tryd.ntmps31
  go_wp2_with (go_at_call 30; refine HL.out.mono ?_; rintro e w' ⟨rfl, hw⟩; have hw2 := hw.symm; clear hw; subst hw2)
  go_loopw [3, 7] (fun v i wr => ∃ k : Nat, k ≤ n ∧ i = .int .i64 k ∧ Hid (OwnInts .i64 3 wr w.heap.size v (ints (dirtyTo S k)) ∧ Below w.heap.size w wr)) (fun _ i _ => n - (intOf i).toNat)
  case atStart => exact ⟨0, by omega, rfl, Lib.hid ⟨OwnInts.nil_ _ _ _ _, Below.refl _ _⟩⟩
  case round =>
    obtain ⟨k, hk, rfl, HR⟩ := hrel
    by_cases hlt : k < n
    · have I1 := HD.out.below HR.out.2 (Nat.le_refl _)
      have c0 := I1.db.c0
      have ch := I1.lines.cell (o := k * 18 + 16) (by have := HN.out; omega)
      rw [linesG_hist] at ch
      obtain ⟨a, c, hv⟩ := hist_slice (I1.hist k (by have := HN.out; omega))
      rw [hv] at ch
      rw [HN.out] at c0
      have HSU := Lib.hid (dirtyTo_succ S k)
      have hkl : (k : Int) < (n : Int) := by omega
      have hdl := dirtyTo_len S k
      generalize hlen : (S.hist k).length = m at *
      clear hv I1 hlen
      by_cases h0 : 0 < m
      · have h0i : (0 : Int) < (m : Int) := by omega
        have HEQ := Lib.hid (HSU.out.trans (if_pos h0))
        have hdl2 := Lib.hid hdl
        clear hdl
        go_wp2_with (at_builtin; refine wpList_app (by simp [Region.wanted, yielded]) (.tmp 20) (.tmp 22) 46 rfl (v := u3) (B := wr.heap.size + 1) (c := 1) (A := some ⟨wr.heap.size, 0, none⟩) (zs := [(k : Int)]) Tryd.underlying46 HI.out HZ0.out HZ1.out HZ2.out rfl rfl (HR.out.1.alloc _) rfl (IntsAt.new .i64 wr 3 (0, 0) _) rfl (by have := hdl2.out; rw [ints_len]; simp [maxLen]; omega) (by have := hdl2.out; rw [ints_len]; simp; omega) (Nat.le_trans HR.out.2.size (by simp)) ?_; intro v2 w2 ho2 hg2 ha2; have hb2 := HR.out.2.trans (((Below.refl w.heap.size wr).alloc HR.out.2.size _).trans ((HR.out.1.alloc _).grownBelow hg2 (Nat.le_trans HR.out.2.size (by simp)))); have HQ := Lib.hid (And.intro ho2 hb2); clear ho2 hg2 ha2 hb2 HR)
        go_roundw
        case rel => exact ⟨k + 1, by omega, by go_num, Lib.hid ⟨by rw [HEQ.out, ints_snoc]; exact HQ.out.1, HQ.out.2⟩⟩
        case measure => simp [intOf]; omega
      · have h0i : ¬ (0 : Int) < (m : Int) := by omega
        have HEQ := Lib.hid (HSU.out.trans (if_neg h0))
        go_wp2
        go_roundw
        case rel => exact ⟨k + 1, by omega, by go_num, Lib.hid ⟨by rw [HEQ.out]; exact HR.out.1, HR.out.2⟩⟩
        case measure => simp [intOf]; omega
    · have hk : k = n := by omega
      subst hk
      go_wp2
      go_ret
      exact ⟨_, rfl, HR⟩
theorem dirty_nil (w : World) : Calls Tryd.prog 31 #[.pointer none] w fun e w' => e = .returned (.slice none 0 0) ∧ w' = w := by
  go_enter Tryd.func31, Tryd.ntmps31
  go_wp2_with (go_at_call 30; refine (lines_nil w).mono ?_; rintro e w' ⟨rfl, rfl⟩)
  refine wp_loop_rounds 1 ?_
  rw [rounds_succ]
  go_wp2
  go_ret
  exact ⟨rfl, rfl⟩
set_option maxRecDepth 100000 in
theorem current_any (w : World) (base M : Nat) (A : Adr) (S : St) (h : IsDev w base A S) (hS : S.Ok M) :
    Calls Tryd.prog 33 #[.pointer (some ⟨A.d, 0, none⟩)] w fun e w' => ∃ v', e = .returned v' ∧ Hid (OwnInts .u8 5 w' w.heap.size v' (content S (whole S) S.n) ∧ Below w.heap.size w w') := by
  obtain ⟨i0, hi, hz0, hz1, hz2⟩ := info_parts info8
  have HI := Lib.hid hi
  have HZ0 := Lib.hid hz0
  have HZ1 := Lib.hid hz1
  have HZ2 := Lib.hid hz2
  have HD := Lib.hid h
  have HSS := Lib.hid hS
  have HL := fun w' (hw : w'.heap.size = w'.heap.size) (h' : DB w' A S) => Lib.hid (lines_any w' A S h')
  have HSz := Lib.hid (size_any w A S h.db hS.n1)
  obtain ⟨n, hn⟩ : ∃ n, S.n = n := ⟨_, rfl⟩
  have hn1 := hS.n1
  rw [hn] at hn1 HSz ⊢
  have HN := Lib.hid hn
  clear hi hz0 hz1 hz2 h hS hn HL
  obtain ⟨z, hz⟩ : ∃ z, n * 64 = z := ⟨_, rfl⟩
  have hz2 : z ≤ 262144 := by omega
  rw [hz] at HSz
  clear hz
  go_enter Tryd.func33, Tryd.ntmps33
  go_wp2_with (first
    | (go_at_call 44; refine HSz.out.mono ?_; rintro e w' ⟨rfl, hw⟩; have hw2 := hw.symm; clear hw; subst hw2)
    | (at_make; refine wpList_make_own _ rfl _ _ 22 rfl w.heap.size 5 i0 (.int .u8 0) 1 Tryd.underlying22 HI.out HZ0.out HZ1.out .i64 .u64 (z : Int) z rfl rfl rfl (by rw [HZ2.out]; omega) (by simp [maxLen]; omega) (Nat.le_refl _) ?_; intro w1 ho1 hg1; have HB1 : Hid (Below w.heap.size w w1) := (Below.refl _ _).grown hg1 (Nat.le_refl _) (fun k hk => by cases hk); have HO1 := Lib.hid (show OwnInts .u8 5 w1 w.heap.size _ [] from ho1); clear ho1 hg1)
    | (go_at_call 30; refine (lines_any w1 A S (HD.out.below HB1.out (Nat.le_refl _)).db).mono ?_; rintro e w' ⟨he, hw⟩; rw [HN.out] at he; subst he; have hw2 := hw.symm; clear hw; subst hw2))
  go_loopw [3, 10] (fun v i wr => ∃ k : Nat, k ≤ n ∧ i = .int .i64 k ∧ Hid (OwnInts .u8 5 wr w.heap.size v (content S (whole S) k) ∧ Below w.heap.size w wr)) (fun _ i _ => n - (intOf i).toNat)
  case atStart => exact ⟨0, by omega, rfl, Lib.hid ⟨HO1.out, HB1.out⟩⟩
  case round =>
    obtain ⟨k, hk, rfl, HR⟩ := hrel
    by_cases hlt : k < n
    · have I1 := HD.out.below HR.out.2 (Nat.le_refl _)
      have c0 := I1.db.c0
      rw [HN.out] at c0
      have hkl : (k : Int) < (n : Int) := by omega
      have hkS : k < S.n := by rw [HN.out]; exact hlt
      have d0 := I1.cCur (k := k) (p := 0) hkS (by decide)
      have d1 := I1.cCur (k := k) (p := 1) hkS (by decide)
      have d2 := I1.cCur (k := k) (p := 2) hkS (by decide)
      have d3 := I1.cCur (k := k) (p := 3) hkS (by decide)
      have d4 := I1.cCur (k := k) (p := 4) hkS (by decide)
      have d5 := I1.cCur (k := k) (p := 5) hkS (by decide)
      have d6 := I1.cCur (k := k) (p := 6) hkS (by decide)
      have d7 := I1.cCur (k := k) (p := 7) hkS (by decide)
      rw [Nat.add_zero] at d0
      have HE := Lib.hid (encode_any wr w.heap.size u3 (content S (whole S) k) (S.cur k) HR.out.1 (by rw [content_len]; omega) HR.out.2.size (HSS.out.curLt k))
      unfold words8 wordG at HE
      clear I1 hkS
      go_wp2_with (go_at_call 45; refine HE.out.mono ?_; rintro e w2 ⟨v2, rfl, HQ⟩)
      go_roundw
      case rel => exact ⟨k + 1, by omega, by go_num, Lib.hid ⟨by rw [content_succ, content_whole]; exact HQ.out.1, HR.out.2.trans HQ.out.2⟩⟩
      case measure => simp [intOf]; omega
    · have hk : k = n := by omega
      subst hk
      go_wp2
      go_ret
      exact ⟨_, rfl, HR⟩
end Go.Proofs.YtnhddgmegnehaaaDoor.Dev
