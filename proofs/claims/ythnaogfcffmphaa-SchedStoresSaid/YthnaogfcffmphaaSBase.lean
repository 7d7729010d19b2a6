/-
  SCHED: machines that count their steps: Of, Left, Step; Finish; the law's same.
-/
import Derived.Test.YthnaogfcffmphaaOwn
import Derived.Test.YthnaogfcffmphaaBlk
import Derived.BigQuiet
import Derived.Deep.Cut
import Derived.Outline
import Derived.Handy
import Derived.WalkLawsBesides
import Derived.IntWalk
set_option linter.unusedVariables false
set_option linter.unusedSimpArgs false
namespace Go.Proofs.Ythnaogfcffmphaa.Sched
open Go.ChangeShapes Go.WideShapes Go.ChangeAt Go.RowKit Go.Proofs.Ythnaogfcffmphaa.Mem Go.Proofs.Ythnaogfcffmphaa.Law Go.Proofs.Ythnaogfcffmphaa.Args Go.Proofs.Ythnaogfcffmphaa.Own
def IsSteps (w : World) (b : Nat) (m : Nat) : Prop := Blk w b 81 1 (fun _ => .int .i64 (m : Int))
theorem IsSteps.stored {w : World} {b m : Nat} (h : IsSteps w b m) (k : Nat) : IsSteps (w.setCell ⟨b, 0, none⟩ (.int .i64 (k : Int))) b k :=
  (Blk.set h 0 (.int .i64 (k : Int))).ext fun o ho => by
    obtain rfl : o = 0 := by omega
    rw [upd_same]
theorem ret_bool {a b : Bool} (h : a = b) : Ending.returned (.bool a) = .returned (.bool b) := by rw [h]
theorem ret_int {k : IntKind} {a b : Int} (h : a = b) : Ending.returned (.int k a) = .returned (.int k b) := by rw [h]
theorem wf_i64 {a : Int} (h : (Lit.int .i64 a).wf = true) : -9223372036854775808 ≤ a ∧ a ≤ 9223372036854775807 := by
  simpa [Lit.wf, IntKind.min, IntKind.max, IntKind.bits, IntKind.signed] using h
theorem wf_u64 {a : Int} (h : (Lit.int .u64 a).wf = true) : 0 ≤ a ∧ a ≤ 18446744073709551615 := by
  simpa [Lit.wf, IntKind.min, IntKind.max, IntKind.bits, IntKind.signed] using h
theorem wf_u8 {a : Int} (h : (Lit.int .u8 a).wf = true) : 0 ≤ a ∧ a ≤ 255 := by
  simpa [Lit.wf, IntKind.min, IntKind.max, IntKind.bits, IntKind.signed] using h
def need (n : Int) : Nat := if n < 1 then 1 else n.toNat
theorem need_one {n : Int} (h : n < 1) : need n = 1 := by unfold need; rw [if_pos h]
theorem need_more {n : Int} (h : 1 ≤ n) : (need n : Int) = n := by unfold need; rw [if_neg (by omega)]; omega
theorem need_pos (n : Int) : 1 ≤ need n := by unfold need; split <;> omega
theorem need_max (n : Int) : (need n : Int) = max n 1 := by unfold need; split <;> omega
theorem of_any (n : Int) (w : World) :
    Calls Try.prog 20 #[.int .i64 n] w fun e w' => e = .returned (.pointer (some ⟨w.heap.size, 0, none⟩)) ∧ Hid (IsSteps w' w.heap.size (need n) ∧ Below w.heap.size w w') := by
  by_cases h : n < 1
  · have HN := Lib.hid (need_one h)
    go_enter Try.func20, Try.ntmps20
    go_wp2
    go_ret
    exact ⟨rfl, Lib.hid ⟨by
      unfold IsSteps
      rw [HN.out]
      exact Blk.newOf w _ _ rfl (fun o ho => by obtain rfl : o = 0 := by omega
                                                rfl), (Below.refl _ _).alloc (Nat.le_refl _) _⟩⟩
  · have h2 : 1 ≤ n := by omega
    have HN := Lib.hid (need_more h2)
    go_enter Try.func20, Try.ntmps20
    go_wp2
    go_ret
    exact ⟨rfl, Lib.hid ⟨by
      unfold IsSteps
      rw [HN.out]
      exact Blk.newOf w _ _ rfl (fun o ho => by obtain rfl : o = 0 := by omega
                                                rfl), (Below.refl _ _).alloc (Nat.le_refl _) _⟩⟩
theorem left_any (b m : Nat) (w : World) (h : IsSteps w b m) :
    Calls Try.prog 21 #[.pointer (some ⟨b, 0, none⟩)] w fun e w' => e = .returned (.int .i64 (m : Int)) ∧ w = w' := by
  have hc := h.cell (o := 0) (by omega)
  clear h
  go_enter Try.func21, Try.ntmps21
  go_wp2
  go_ret
  exact ⟨rfl, rfl⟩
theorem left_nil (w : World) :
    Calls Try.prog 21 #[.pointer none] w fun e w' => e = .returned (.int .i64 0) ∧ w = w' := by
  go_enter Try.func21, Try.ntmps21
  go_wp2
  go_ret
  exact ⟨rfl, rfl⟩
theorem step_nil (w : World) :
    Calls Try.prog 23 #[.pointer none] w fun e w' => e = .returned (.bool true) ∧ w = w' := by
  go_enter Try.func23, Try.ntmps23
  go_wp2_with ((go_at_call 21; refine (left_nil _).mono ?_; rintro e w' ⟨rfl, rfl⟩))
  go_ret
  exact ⟨rfl, rfl⟩
theorem step_any (b m : Nat) (w : World) (hm : m ≤ 9223372036854775807) (h : IsSteps w b m) :
    Calls Try.prog 23 #[.pointer (some ⟨b, 0, none⟩)] w fun e w' => e = .returned (.bool (decide (m ≤ 1))) ∧ Hid (IsSteps w' b (m - 1) ∧ Only (· = b) w w') := by
  have hc := h.cell (o := 0) (by omega)
  have hz := h.frozen 0
  have H := Lib.hid h
  rcases Nat.eq_zero_or_pos m with h0 | h0
  · subst h0
    clear h hm
    go_enter Try.func23, Try.ntmps23
    go_wp2_with ((go_at_call 21; refine (left_any b 0 _ H.out).mono ?_; rintro e w' ⟨rfl, rfl⟩))
    go_ret
    exact ⟨rfl, Lib.hid ⟨H.out, Only.refl _ _⟩⟩
  · obtain ⟨k, rfl⟩ : ∃ k, m = k + 1 := ⟨m - 1, by omega⟩
    have HK : Hid (((k + 1 : Nat) : Int) = (k : Int) + 1) := Lib.hid (by omega)
    rw [HK.out] at hc
    have hk : k ≤ 9223372036854775806 := by omega
    have hk0 : (0 : Int) ≤ (k : Int) := by omega
    have H2 := Lib.hid (H.out.stored k)
    have HO := Lib.hid ((Only.refl (· = b) w).set ⟨b, 0, none⟩ (.int .i64 (k : Int)) (.inl rfl))
    have HL : Hid (Calls Try.prog 21 #[.pointer (some ⟨b, 0, none⟩)] w fun e w' => e = .returned (.int .i64 ((k : Int) + 1)) ∧ w = w') := Lib.hid (by have := left_any b (k + 1) w H.out; rw [HK.out] at this; exact this)
    rcases Nat.eq_zero_or_pos k with h1 | h1
    · subst h1
      clear h hm h0 H HK hk0 hk
      go_enter Try.func23, Try.ntmps23
      go_wp2_with fail
      refine HL.out.mono ?_
      rintro e w' ⟨rfl, rfl⟩
      go_wp2_with ((go_at_call 21; refine (left_any b 0 _ H2.out).mono ?_; rintro e w' ⟨rfl, rfl⟩))
      go_ret
      exact ⟨rfl, Lib.hid ⟨H2.out, HO.out⟩⟩
    · have hd : ((k : Int) == 0) = false := by simp; omega
      have HD : Hid (decide (k + 1 ≤ 1) = false) := Lib.hid (by simp; omega)
      clear h hm h0 H HK
      go_enter Try.func23, Try.ntmps23
      go_wp2_with fail
      refine HL.out.mono ?_
      rintro e w' ⟨rfl, rfl⟩
      go_wp2_with ((go_at_call 21; refine (left_any b k _ H2.out).mono ?_; rintro e w' ⟨rfl, rfl⟩))
      go_ret
      exact ⟨ret_bool HD.out.symm, Lib.hid ⟨H2.out, HO.out⟩⟩
set_option maxHeartbeats 400000 in
theorem finish_any (b m : Nat) (k : Int) (w : World) (hm1 : 1 ≤ m) (hm : m ≤ 9223372036854775807) (hk : k ≤ 9223372036854775807) (h : IsSteps w b m) :
    Calls Try.prog 22 #[.iface 41 (.pointer (some ⟨b, 0, none⟩)), .int .i64 k] w fun e w' => e = .returned (.bool (decide ((m : Int) ≤ k))) ∧ Hid (IsSteps w' b (m - min m k.toNat) ∧ Only (· = b) w w') := by
  have H := Lib.hid h
  clear h
  go_enter Try.func22, Try.ntmps22
  go_wp2
  go_loopw [8] (fun i wr => ∃ j : Nat, j < m ∧ j ≤ k.toNat ∧ i = .int .i64 j ∧ Hid (IsSteps wr b (m - j) ∧ Only (· = b) w wr)) (fun i _ => k.toNat - (intOf i).toNat)
  case atStart => exact ⟨0, by omega, by omega, rfl, Lib.hid ⟨H.out, Only.refl _ _⟩⟩
  case round =>
    obtain ⟨j, hj, hjk, rfl, HR⟩ := hrel
    by_cases hlt : (j : Int) < k
    · by_cases h1 : m - j ≤ 1
      · have HB : Hid (decide (m - j ≤ 1) = true) := Lib.hid (by simpa using h1)
        have HS : Hid (Calls Try.prog 23 #[.pointer (some ⟨b, 0, none⟩)] wr fun e w' => e = .returned (.bool true) ∧ Hid (IsSteps w' b (m - j - 1) ∧ Only (· = b) wr w')) := Lib.hid (by
          have := step_any b (m - j) wr (by omega) HR.out.1
          rw [HB.out] at this; exact this)
        have HF : Hid (decide ((m : Int) ≤ k) = true) := Lib.hid (by simp; omega)
        have HM : Hid (m - min m k.toNat = m - j - 1) := Lib.hid (by omega)
        clear h1
        go_wp2_with ((go_at_call 23; refine HS.out.mono ?_; rintro e w' ⟨rfl, H2⟩))
        go_ret
        exact ⟨ret_bool HF.out.symm, Lib.hid ⟨by rw [HM.out]; exact H2.out.1, HR.out.2.trans H2.out.2⟩⟩
      · have HB : Hid (decide (m - j ≤ 1) = false) := Lib.hid (by simpa using h1)
        have HS : Hid (Calls Try.prog 23 #[.pointer (some ⟨b, 0, none⟩)] wr fun e w' => e = .returned (.bool false) ∧ Hid (IsSteps w' b (m - j - 1) ∧ Only (· = b) wr w')) := Lib.hid (by
          have := step_any b (m - j) wr (by omega) HR.out.1
          rw [HB.out] at this; exact this)
        have hj1 : j + 1 < m := by omega
        have HJ : Hid (m - j - 1 = m - (j + 1)) := Lib.hid (by omega)
        rw [HJ.out] at HS
        clear h1
        go_wp2_with ((go_at_call 23; refine HS.out.mono ?_; rintro e w' ⟨rfl, H2⟩))
        go_roundw
        case rel => exact ⟨j + 1, by omega, by omega, by go_num, Lib.hid ⟨H2.out.1, HR.out.2.trans H2.out.2⟩⟩
        case measure => simp [intOf]; omega
    · have HF : Hid (decide ((m : Int) ≤ k) = false) := Lib.hid (by simp; omega)
      have HM : Hid (m - min m k.toNat = m - j) := Lib.hid (by omega)
      go_wp2
      go_ret
      exact ⟨ret_bool HF.out.symm, Lib.hid ⟨by rw [HM.out]; exact HR.out.1, HR.out.2⟩⟩
theorem finish_nil (k : Int) (w : World) :
    Calls Try.prog 22 #[.nilIface, .int .i64 k] w fun e w' => e = .returned (.bool false) ∧ w = w' := by
  go_enter Try.func22, Try.ntmps22
  go_wp2
  go_ret
  exact ⟨rfl, rfl⟩
theorem eq_of_getD {xs ys : List Int} {n : Nat} (hx : xs.length = n) (hy : ys.length = n) (h : ∀ j, j < n → xs.getD j 0 = ys.getD j 0) : xs = ys := by
  apply List.ext_getElem (by omega)
  intro i h1 h2
  have := h i (by omega)
  rwa [getD_at h1, getD_at h2] at this
theorem same_ints (A : Option Addr) (n c B : Nat) (zs : List Int) (A' : Option Addr) (n' c' B' : Nat) (zs' : List Int) (w : World) (hn : n ≤ 9223372036854775807) (hl : zs.length = n) (hl' : zs'.length = n') (hr : Hid (IntsAt .i64 w B A zs)) (hr' : Hid (IntsAt .i64 w B' A' zs')) :
    Calls Try.prog 16 #[.slice A n c, .slice A' n' c'] w fun e w' => e = .returned (.bool (decide (zs = zs'))) ∧ ∃ m, w' = w.drewN m := by
  have HL := Lib.hid hl
  have HL' := Lib.hid hl'
  clear hl hl'
  go_enter Try.func16, Try.ntmps16
  by_cases hnn : n = n'
  · subst hnn
    go_wp2
    go_loopw [13] (fun i wr => ∃ k m : Nat, k ≤ n ∧ i = .int .i64 k ∧ wr = w.drewN m ∧ ∀ j, j < k → zs.getD j 0 = zs'.getD j 0) (fun i _ => n - (intOf i).toNat)
    case atStart => exact ⟨0, 0, by omega, rfl, rfl, fun j h => absurd h (by omega)⟩
    case round =>
      obtain ⟨k, m, hk, rfl, rfl, he⟩ := hrel
      have HE := Lib.hid he
      clear he
      by_cases hlt : k < n
      · have hkl : k < zs.length := by have := HL.out; omega
        have hkl' : k < zs'.length := by have := HL'.out; omega
        obtain ⟨ad, rfl, _, hc0⟩ := hr.out k hkl
        obtain ⟨ad', rfl, _, hc0'⟩ := hr'.out k hkl'
        obtain ⟨x, hx⟩ : ∃ x, zs.getD k 0 = x := ⟨_, rfl⟩
        obtain ⟨x', hx'⟩ : ∃ x, zs'.getD k 0 = x := ⟨_, rfl⟩
        rw [hx] at hc0
        rw [hx'] at hc0'
        have HX := Lib.hid hx
        have HX' := Lib.hid hx'
        clear hx hx' hkl hkl'
        by_cases hxx : x = x'
        · go_wp2
          go_quiet (fail)
          go_wp2
          go_roundw
          case rel => exact ⟨k + 1, _, by omega, by go_num, rfl, fun j hj => by
              rcases Nat.lt_or_ge j k with h | h
              · exact HE.out j h
              · rw [show j = k by omega, HX.out, HX'.out, hxx]⟩
          case measure => simp [intOf]; omega
        · go_wp2
          go_quiet (fail)
          go_wp2
          go_ret
          exact ⟨ret_bool (by rw [eq_comm, decide_eq_false_iff_not]; intro h; rw [h, HX'.out] at HX; exact hxx HX.out.symm), _, World.drewN_drewN _ _ _⟩
      · go_wp2
        go_ret
        exact ⟨ret_bool (by rw [eq_comm, decide_eq_true_iff]; exact eq_of_getD HL.out HL'.out (fun j hj => HE.out j (by omega))), m, rfl⟩
  · have hni : ¬ ((n : Int) = (n' : Int)) := by omega
    go_wp2
    go_ret
    exact ⟨ret_bool (by rw [eq_comm, decide_eq_false_iff_not]; intro h; have := congrArg List.length h; rw [HL.out, HL'.out] at this; exact hnn this), 0, rfl⟩
end Go.Proofs.Ythnaogfcffmphaa.Sched
