/-
  SCHED: timesChoices, Count.
-/
import Derived.Test.YthnaogfcffmphaaSDiv
import Derived.Test.YthnaogfcffmphaaSBin
import Derived.Deep.DeepMust
set_option linter.unusedVariables false
set_option linter.unusedSimpArgs false
namespace Go.Proofs.Ythnaogfcffmphaa.Sched
open Go.ChangeShapes Go.WideShapes Go.ChangeAt Go.RowKit Go.Proofs.Ythnaogfcffmphaa.Mem Go.Proofs.Ythnaogfcffmphaa.Law Go.Proofs.Ythnaogfcffmphaa.Args Go.Proofs.Ythnaogfcffmphaa.Own
def timRes (n a b : Nat) : Value := if tim n a b ≤ most then .tuple #[.int .u64 (tim n a b : Int), .bool true] else .tuple #[.int .u64 0, .bool false]
theorem timRes_of {n a b t : Nat} (h : tim n a b = t) (ht : t ≤ most) : timRes n a b = .tuple #[.int .u64 (t : Int), .bool true] := by
  unfold timRes; rw [h, if_pos ht]
theorem timRes_no {n a b : Nat} (h : most < tim n a b) : timRes n a b = .tuple #[.int .u64 0, .bool false] := by
  unfold timRes; rw [if_neg (by omega)]
set_option maxRecDepth 100000 in
set_option maxHeartbeats 1000000 in
theorem times_any (n a b few many : Nat) (w : World) (hn : 1 ≤ n) (hn2 : n ≤ most) (ha : a ≤ 1000000) (hb : b ≤ 1000000) (hf : min a b = few) (hm : max a b = many) :
    Calls Try.prog 41 #[.int .u64 (n : Int), .int .u64 (a : Int), .int .u64 (b : Int)] w fun e w' => e = .returned (timRes n a b) ∧ ∃ q, w' = w.drewN q := by
  have hfm : few ≤ many := by omega
  have hma : many ≤ 1000000 := by omega
  have HF : Hid (∀ j, j ≤ few → n * ch many j ≤ tim n a b) := Lib.hid fun j hj => by
    unfold tim
    rw [hf, hm]
    exact Nat.mul_le_mul_left _ (ch_mono many hj)
  have HE : Hid (tim n a b = n * ch many few) := Lib.hid (by unfold tim; rw [hf, hm])
  have hfi : min (a : Int) (b : Int) = (few : Int) := by omega
  have hmi : max (a : Int) (b : Int) = (many : Int) := by omega
  clear hf hm
  go_enter Try.func41, Try.ntmps41
  go_wp2
  go_loopw [0, 10] (fun x y wr => ∃ j m q : Nat, 1 ≤ j ∧ j ≤ few + 1 ∧ x = .int .u64 (m : Int) ∧ y = .int .u64 (j : Int) ∧ wr = w.drewN q ∧ Hid (m = n * ch many (j - 1) ∧ m ≤ most)) (fun _ y _ => few + 1 - (intOf y).toNat)
  case atStart => exact ⟨1, n, 0, by omega, by omega, rfl, rfl, rfl, Lib.hid ⟨by rw [Nat.sub_self, ch_zero, Nat.mul_one], hn2⟩⟩
  case round =>
    obtain ⟨j, m, q, hj1, hj2, rfl, rfl, rfl, HM⟩ := hrel
    have hmm := HM.out.2
    unfold most at hmm hn2
    by_cases hjf : j ≤ few
    · have hji : (j : Int) ≤ (few : Int) := by omega
      have hj63 : j ≤ 63 := by
        have h1 := ch_pow many (j - 1) (by omega)
        have h2 : 1 * ch many (j - 1) ≤ n * ch many (j - 1) := Nat.mul_le_mul_right _ hn
        rw [← HM.out.1, Nat.one_mul] at h2
        have h3 : 2 ^ (j - 1) < 2 ^ 63 := by omega
        have h4 := (Nat.pow_lt_pow_iff_right (by omega)).1 h3
        omega
      obtain ⟨t, ht⟩ : ∃ t, n * ch many j = t := ⟨_, rfl⟩
      have hp : m * (many + j) = t * j := by
        have h1 := ch_mul many (j - 1)
        rw [show j - 1 + 1 = j by omega] at h1
        rw [HM.out.1, ← ht, Nat.mul_assoc, Nat.mul_assoc, ← h1]
      obtain ⟨hi, hhi⟩ : ∃ hi, m * (many + j) / 18446744073709551616 = hi := ⟨_, rfl⟩
      obtain ⟨lo, hlo⟩ : ∃ lo, m * (many + j) % 18446744073709551616 = lo := ⟨_, rfl⟩
      have hll : lo < 18446744073709551616 := by rw [← hlo]; exact Nat.mod_lt _ (by decide)
      have hpl : hi * 18446744073709551616 + lo = t * j := by rw [← hhi, ← hlo, ← hp, Nat.mul_comm]; exact Nat.div_add_mod _ _
      have HMUL : Hid (∀ W, Calls Try.prog 51 #[.int .u64 (m : Int), .int .u64 ((many : Int) + (j : Int))] W fun e w' => e = .returned (.tuple #[.int .u64 (hi : Int), .int .u64 (lo : Int)]) ∧ W = w') := Lib.hid fun W => by
        have := Try.bits_Mul64 m (many + j) (by omega) (by omega) W
        rw [hhi, hlo, Int.natCast_add] at this
        exact this.mono fun e w' ⟨h1, h2⟩ => ⟨h1, h2.symm⟩
      have htim := HF.out j hjf
      rw [ht] at htim
      by_cases hge : j ≤ hi
      · have HNO := Lib.hid (timRes_no (n := n) (a := a) (b := b) (by
          unfold most
          have h1 : j * 18446744073709551616 ≤ t * j := by
            have := Nat.mul_le_mul_right 18446744073709551616 hge
            omega
          rw [Nat.mul_comm t j] at h1
          have h2 := Nat.le_of_mul_le_mul_left h1 (by omega)
          omega))
        have hgi : (j : Int) ≤ (hi : Int) := by omega
        clear hhi hlo hpl hp ht htim hll hmm hn2 hge
        go_wp2_with (go_at_call 51; go_must (refine (HMUL.out _).mono ?_); rintro e w' ⟨rfl, rfl⟩)
        go_ret2
        exact ⟨congrArg Ending.returned HNO.out.symm, _, rfl⟩
      · have hlt : hi < j := by omega
        have hlti : (hi : Int) < (j : Int) := by omega
        have HDIV : Hid (∀ W, Calls Try.prog 52 #[.int .u64 (hi : Int), .int .u64 (lo : Int), .int .u64 (j : Int)] W fun e w' => ∃ r, e = .returned (.tuple #[.int .u64 (t : Int), .int .u64 r]) ∧ ∃ n, w' = W.drewN n) := Lib.hid fun W => by
          have := div64_any hi lo j W hlt (by omega) hll
          rw [hpl, Nat.mul_div_cancel _ (by omega)] at this
          exact this
        by_cases htm : t ≤ 4611686018427387904
        · have HN : Hid (t = n * ch many (j + 1 - 1) ∧ t ≤ most) := Lib.hid ⟨by rw [Nat.add_sub_cancel]; exact ht.symm, htm⟩
          have hti : decide (4611686018427387904 < (t : Int)) = false := by simp; omega
          clear hhi hlo hpl hp ht htim hll hmm hn2 hge htm
          go_wp2_with (first
            | (go_at_call 51; go_must (refine (HMUL.out _).mono ?_); rintro e w' ⟨rfl, rfl⟩)
            | (go_at_call 52; go_must (refine (HDIV.out _).mono ?_); rintro e w' ⟨r, rfl, q2, rfl⟩))
          go_roundw
          case rel => exact ⟨j + 1, t, _, by omega, by omega, rfl, by go_num, rfl, HN⟩
          case measure => simp [intOf]; omega
        · have HNO := Lib.hid (timRes_no (n := n) (a := a) (b := b) (by unfold most; omega))
          have hti : decide (4611686018427387904 < (t : Int)) = true := by simp; omega
          clear hhi hlo hpl hp ht htim hll hmm hn2 hge htm
          go_wp2_with (first
            | (go_at_call 51; go_must (refine (HMUL.out _).mono ?_); rintro e w' ⟨rfl, rfl⟩)
            | (go_at_call 52; go_must (refine (HDIV.out _).mono ?_); rintro e w' ⟨r, rfl, q2, rfl⟩))
          go_ret2
          exact ⟨congrArg Ending.returned HNO.out.symm, _, rfl⟩
    · have hj3 : j = few + 1 := by omega
      have HR := Lib.hid (timRes_of (n := n) (a := a) (b := b) (t := m) (by rw [HE.out, HM.out.1, hj3, Nat.add_sub_cancel]) HM.out.2)
      have hni : ¬ ((j : Int) ≤ (few : Int)) := by omega
      clear hmm hn2 hj3
      go_wp2
      go_ret2
      exact ⟨congrArg Ending.returned HR.out.symm, _, rfl⟩
def cntRes (zs : List Int) : Value := if (cntFold zs).1 ≤ most then .tuple #[.int .u64 ((cntFold zs).1 : Int), .bool true] else .tuple #[.int .u64 (most : Int), .bool false]
theorem cntRes_of {zs : List Int} {t : Nat} (h : (cntFold zs).1 = t) (ht : t ≤ most) : cntRes zs = .tuple #[.int .u64 (t : Int), .bool true] := by unfold cntRes; rw [h, if_pos ht]
theorem cntRes_no {zs : List Int} (h : most < (cntFold zs).1) : cntRes zs = .tuple #[.int .u64 4611686018427387904, .bool false] := by unfold cntRes; rw [if_neg (by omega)]; rfl
set_option maxRecDepth 100000 in
set_option maxHeartbeats 1000000 in
theorem count_any (A : Option Addr) (n c B : Nat) (zs : List Int) (w : World) (hn : n ≤ 100) (hl : zs.length = n) (hz : Hid (∀ z ∈ zs, -1000 ≤ z ∧ z ≤ 1000)) (hr : Hid (IntsAt .i64 w B A zs)) :
    Calls Try.prog 27 #[.slice A n c] w fun e w' => e = .returned (cntRes zs) ∧ ∃ q, w' = w.drewN q := by
  have HL := Lib.hid hl
  have HT : Hid (∀ k, (cntFold (zs.take k)).2 ≤ k * 1000) := Lib.hid (fold_total zs 1000 (fun z hzz => by have := hz.out z hzz; omega))
  clear hl
  have hn63 : n ≤ 9223372036854775807 := by omega
  go_enter Try.func27, Try.ntmps27
  go_wp2
  go_loopw [4, 5, 6, 12] (fun x y z i wr => ∃ k m t q : Nat, k ≤ n ∧ i = .int .i64 (k : Int) ∧ x = .int .u64 (m : Int) ∧ y = .int .u64 (t : Int) ∧ z = .bool true ∧ wr = w.drewN q ∧ t ≤ 100000 ∧ 1 ≤ m ∧ Hid (cntFold (zs.take k) = (m, t) ∧ m ≤ most)) (fun _ _ _ i _ => n - (intOf i).toNat)
  case atStart => exact ⟨0, 1, 0, 0, by omega, rfl, rfl, rfl, rfl, rfl, by omega, by omega, Lib.hid ⟨by rw [List.take_zero]; rfl, by decide⟩⟩
  case round =>
    obtain ⟨k, m, t, q, hk, rfl, rfl, rfl, rfl, rfl, ht, hm1, HM⟩ := hrel
    by_cases hkn : k < n
    · have hki : (k : Int) < (n : Int) := by omega
      have hk0 : (0 : Int) ≤ (k : Int) := by omega
      have hkl : k < zs.length := by have := HL.out; omega
      obtain ⟨ad, rfl, _, hc⟩ := hr.out k hkl
      have hzr := hz.out (zs.getD k 0) (by rw [getD_at hkl]; exact List.getElem_mem hkl)
      have hft := fold_take hkl
      have hmono := fold_mono zs (k + 1)
      have htot := HT.out (k + 1)
      obtain ⟨z, hzz⟩ : ∃ z, zs.getD k 0 = z := ⟨_, rfl⟩
      rw [hzz] at hc hzr hft
      obtain ⟨z1, z2⟩ := hzr
      obtain ⟨a, ha⟩ : ∃ a, z.toNat = a := ⟨_, rfl⟩
      have hmx : max z 0 = (a : Int) := by omega
      have ha1 : a ≤ 1000 := by omega
      have hwa : IntKind.u64.wrap (a : Int) = (a : Int) := IntWalk.u64_in _ ⟨by omega, by omega⟩
      rw [HM.out.1] at hft
      unfold cntStep at hft
      simp only [ha] at hft
      have HTM : Hid (∀ W, Calls Try.prog 41 #[.int .u64 (m : Int), .int .u64 (t : Int), .int .u64 (a : Int)] W fun e w' => e = .returned (timRes m t a) ∧ ∃ q, w' = W.drewN q) := Lib.hid fun W => times_any m t a _ _ W hm1 HM.out.2 (by omega) (by omega) rfl rfl
      rw [hft] at hmono htot
      simp only at hmono htot
      by_cases hle : tim m t a ≤ most
      · have HV := Lib.hid (timRes_of (n := m) (a := t) (b := a) rfl hle)
        rw [HV.out] at HTM
        have hge := tim_ge (n := m) t a
        obtain ⟨m2, hm2⟩ : ∃ m2, tim m t a = m2 := ⟨_, rfl⟩
        rw [hm2] at HTM hft hle hge
        have HN : Hid (cntFold (zs.take (k + 1)) = (m2, t + a) ∧ m2 ≤ most) := Lib.hid ⟨hft, hle⟩
        have ht2 : t + a ≤ 100000 := by omega
        have hm21 : 1 ≤ m2 := by omega
        clear hft hmono htot hzz ha hle hge hm2 hkl HV hz
        go_wp2_with (go_at_call 41; go_must (refine (HTM.out _).mono ?_); rintro e w' ⟨rfl, q2, rfl⟩)
        go_roundw
        case rel => exact ⟨k + 1, m2, t + a, _, by omega, by go_num, rfl, by go_num, rfl, rfl, ht2, hm21, HN⟩
        case measure => simp [intOf]; omega
      · have HV := Lib.hid (timRes_no (n := m) (a := t) (b := a) (by omega))
        rw [HV.out] at HTM
        have HNO := Lib.hid (cntRes_no (zs := zs) (by omega))
        clear hft hmono htot hzz ha hle hkl HV hz
        go_wp2_with (go_at_call 41; go_must (refine (HTM.out _).mono ?_); rintro e w' ⟨rfl, q2, rfl⟩)
        go_ret2
        exact ⟨congrArg Ending.returned HNO.out.symm, _, rfl⟩
    · have hk2 : k = n := by omega
      subst hk2
      have HR := Lib.hid (cntRes_of (zs := zs) (t := m) (by rw [← List.take_of_length_le (Nat.le_of_eq HL.out), HM.out.1]) HM.out.2)
      go_wp2
      go_ret2
      exact ⟨congrArg Ending.returned HR.out.symm, _, rfl⟩
end Go.Proofs.Ythnaogfcffmphaa.Sched
