/-
  CONTRACTS: the reference's Same, SameBytes, Unpack; word.Unpack.
-/
import Derived.Test.YtgfiddjlbjlolaaPack
import Derived.Test.YtgfiddjlbjlolaaUnpMath
namespace Go.Proofs.Ytgfiddjlbjlolaa.Base
open Go.ChangeShapes Go.WideShapes Go.ChangeAt Go.RowKit Go.Proofs.Ytgfiddjlbjlolaa.PackMath Go.Proofs.Ytgfiddjlbjlolaa.Law Go.Proofs.Ytgfiddjlbjlolaa.Args Go.Proofs.Ytgfiddjlbjlolaa.Own
theorem sameBytes_any (A : Option Addr) (n c B : Nat) (zs : List Int) (A' : Option Addr) (n' c' B' : Nat) (zs' : List Int) (w : World) (hl : zs.length = n) (hl' : zs'.length = n') (hr : Hid (IntsAt .u8 w B A zs)) (hr' : Hid (IntsAt .u8 w B' A' zs'))
    (hw : Hid (∀ z ∈ zs, 0 ≤ z ∧ z ≤ 255)) (hw' : Hid (∀ z ∈ zs', 0 ≤ z ∧ z ≤ 255)) :
    Calls Try.prog 25 #[.slice A n c, .slice A' n' c'] w fun e w' => e = .returned (.bool (decide (zs = zs'))) ∧ w' = w := by
  have k1 := conv_bytes (P := Try.prog) (c := c) Try.underlying39 Try.underlying5 Try.underlying9 hr.out hl
  have k2 := conv_bytes (P := Try.prog) (c := c') Try.underlying39 Try.underlying5 Try.underlying9 hr'.out hl'
  have E := Lib.hid (bstr_inj hw.out hw'.out)
  clear hl hl'
  go_enter Try.func25, Try.ntmps25
  go_wp2
  go_ret
  refine ⟨ret_bool ?_, rfl⟩
  show ((bstr zs).toList == (bstr zs').toList) = decide (zs = zs')
  rw [ByteArray.toList_eq, ByteArray.toList_eq]
  by_cases h : zs = zs'
  · rw [decide_eq_true h, beq_iff_eq]; exact E.out.2 h
  · rw [decide_eq_false h, beq_eq_false_iff_ne]; exact fun h2 => h (E.out.1 h2)
theorem same_words (A : Option Addr) (n c B : Nat) (zs : List Int) (A' : Option Addr) (n' c' B' : Nat) (zs' : List Int) (w : World) (hn : n ≤ 9223372036854775807) (hl : zs.length = n) (hl' : zs'.length = n') (hr : Hid (IntsAt .u64 w B A zs)) (hr' : Hid (IntsAt .u64 w B' A' zs')) :
    Calls Try.prog 22 #[.slice A n c, .slice A' n' c'] w fun e w' => e = .returned (.bool (decide (zs = zs'))) ∧ ∃ m, w' = w.drewN m := by
  have HL := Lib.hid hl
  have HL' := Lib.hid hl'
  clear hl hl'
  go_enter Try.func22, Try.ntmps22
  by_cases hnn : n = n'
  · subst hnn
    go_wp2
    go_loopw [13] (fun i wr => ∃ k m : Nat, k ≤ n ∧ i = .int .i64 k ∧ wr = w.drewN m ∧ ∀ j, j < k → zs.getD j 0 = zs'.getD j 0) (fun i _ => n - (intOf i).toNat)
    case atStart => exact ⟨0, 0, by omega, rfl, rfl, fun j h => absurd h (by omega)⟩
    case round =>
      obtain ⟨k, m, hk, rfl, rfl, he⟩ := hrel
      have HE := Lib.hid he
      clear he
      by_cases hlt : k < n
      · have hkl : k < zs.length := by have := HL.out; omega
        have hkl' : k < zs'.length := by have := HL'.out; omega
        obtain ⟨ad, rfl, _, hc0⟩ := hr.out k hkl
        obtain ⟨ad', rfl, _, hc0'⟩ := hr'.out k hkl'
        obtain ⟨x, hx⟩ : ∃ x, zs.getD k 0 = x := ⟨_, rfl⟩
        obtain ⟨x', hx'⟩ : ∃ x, zs'.getD k 0 = x := ⟨_, rfl⟩
        rw [hx] at hc0
        rw [hx'] at hc0'
        have HX := Lib.hid hx
        have HX' := Lib.hid hx'
        clear hx hx' hkl hkl'
        by_cases hxx : x = x'
        · go_wp2
          go_quiet (fail)
          go_wp2
          go_roundw
          case rel => exact ⟨k + 1, _, by omega, by go_num, rfl, fun j hj => by
              rcases Nat.lt_or_ge j k with h | h
              · exact HE.out j h
              · rw [show j = k by omega, HX.out, HX'.out, hxx]⟩
          case measure => simp [intOf]; omega
        · go_wp2
          go_quiet (fail)
          go_wp2
          go_ret
          exact ⟨ret_bool (by rw [eq_comm, decide_eq_false_iff_not]; intro h; rw [h, HX'.out] at HX; exact hxx HX.out.symm), _, World.drewN_drewN _ _ _⟩
      · go_wp2
        go_ret
        exact ⟨ret_bool (by rw [eq_comm, decide_eq_true_iff]; exact eq_of_getD HL.out HL'.out (fun j hj => HE.out j (by omega))), m, rfl⟩
  · have hni : ¬ ((n : Int) = (n' : Int)) := by omega
    go_wp2
    go_ret
    exact ⟨ret_bool (by rw [eq_comm, decide_eq_false_iff_not]; intro h; have := congrArg List.length h; rw [HL.out, HL'.out] at this; exact hnn this), 0, rfl⟩
theorem word_at {zs : List Int} (hw : ∀ z ∈ zs, 0 ≤ z ∧ z ≤ 18446744073709551615) {k : Nat} (h : k < zs.length) : ∃ b : Nat, b < 18446744073709551616 ∧ zs.getD k 0 = (b : Int) := by
  have := hw _ (List.getElem_mem h)
  rw [getD_at h]
  exact ⟨(zs[k]).toNat, by omega, by omega⟩
theorem pow_shift (r : Nat) : (2 : Int) ^ (8 * r) = 256 ^ r := by rw [Int.pow_mul]; rfl
theorem unpack_any (A : Option Addr) (n cap B : Nat) (ws : List Int) (m : Int) (w : World) (hl : ws.length = n) (hn : n * 8 ≤ 140737488351232 + 8) (hm2 : m ≤ 9223372036854775807) (hr : Hid (IntsAt .u64 w B A ws)) (hB : B ≤ w.heap.size) (hw : Hid (∀ z ∈ ws, 0 ≤ z ∧ z ≤ 18446744073709551615)) :
    Calls Try.prog 24 #[.slice A n cap, .int .i64 m] w fun e w' => ∃ v E l, e = .returned (.tuple #[v, .int .i64 E]) ∧ Hid (OwnInts .u8 5 w' w.heap.size v l ∧ Below w.heap.size w w') ∧
      Hid ((m < 0 ∧ E = 1 ∧ l = []) ∨ (0 ≤ m ∧ ¬ unpOk ws m.toNat ∧ E = 11 ∧ l = []) ∨ (0 ≤ m ∧ unpOk ws m.toNat ∧ E = 0 ∧ l = unp ws m.toNat)) := by
  have HL := Lib.hid hl
  obtain ⟨i0, hi, hz0, hz1, hz2⟩ := info_parts info8
  have HI := Lib.hid hi
  have HZ0 := Lib.hid hz0
  have HZ1 := Lib.hid hz1
  have HZ2 := Lib.hid hz2
  clear hl hi hz0 hz1 hz2
  by_cases hm : m < 0
  · go_enter Try.func24, Try.ntmps24
    go_wp2
    go_ret2
    exact ⟨_, _, _, rfl, Lib.hid ⟨OwnInts.nil_ _ _ _ _, Below.refl _ _⟩, Lib.hid (.inl ⟨hm, rfl, rfl⟩)⟩
  · obtain ⟨q, rfl⟩ := Int.eq_ofNat_of_zero_le (show 0 ≤ m by omega)
    have hq0 : (0 : Int) ≤ (q : Int) := by omega
    have hq : q ≤ 9223372036854775807 := by omega
    clear hm hm2
    obtain ⟨nw, hnw⟩ : ∃ nw, (q + 7) / 8 = nw := ⟨_, rfl⟩
    have HC := wordsFor_any q w (by omega)
    rw [hnw] at HC
    have HD := Lib.hid HC
    have HOK : Hid (unpOk ws q ↔ n = nw ∧ (q % 8 ≠ 0 → ws.getD (n - 1) 0 / 256 ^ (q % 8) = 0)) := Lib.hid (by unfold unpOk; rw [HL.out, hnw])
    have hnw1 : 8 * nw ≤ q + 7 := by omega
    have hnw2 : q ≤ 8 * nw := by omega
    obtain ⟨r, hrr⟩ : ∃ r, q % 8 = r := ⟨_, rfl⟩
    have hr8 : r < 8 := by omega
    rw [hrr] at HOK
    have hri : (q : Int) % 8 = (r : Int) := by omega
    have htm : (q : Int).tmod 8 = (r : Int) := by rw [Int.tmod_eq_emod_of_nonneg (by omega)]; exact hri
    by_cases hnn : n = nw
    · have HNW := Lib.hid hnw
      subst hnn
      have hmk : q ≤ 140737488351240 := by omega
      by_cases hrz : r = 0
      · have HOK2 := Lib.hid (HOK.out.2 ⟨rfl, fun h => absurd hrz h⟩)
        have hrz' : ((r : Int) = 0) := by omega
        have htm0 : (q : Int).tmod 8 = 0 := htm.trans hrz'
        clear htm hri hrz hrz' HOK hrr hnw HC
        go_enter Try.func24, Try.ntmps24
        go_wp2_with (go_at_call 41; refine (HD.out).mono ?_; rintro e w' ⟨rfl, rfl⟩)
        go_quiet (fail)
        go_wp2_with (first
          | (at_make; refine wpList_make_full _ rfl _ _ 39 rfl w.heap.size 5 i0 (.int .u8 0) 1 Try.underlying39 HI.out HZ0.out HZ1.out .i64 .i64 (q : Int) (q : Int) q rfl rfl rfl rfl (by rw [HZ2.out]; omega) (by simp [maxLen]; omega) (Nat.le_refl _) ?_; intro w1 ho1 hg1))
        have HO0 : Hid (OwnInts .u8 5 w1 w.heap.size (.slice (some ⟨w.heap.size, 0, none⟩) q q) (upto ws q 0) ∧ Below w.heap.size w w1) := Lib.hid ⟨by rw [upto_zero]; exact OwnInts.made ho1, (below_draws (Below.refl _ _) nq).grown hg1 (Nat.le_refl _) (fun k hk => by cases hk)⟩
        clear ho1 hg1
        go_loopw [34] (fun i wr => ∃ k : Nat, k ≤ q ∧ i = .int .i64 k ∧ Hid (OwnInts .u8 5 wr w.heap.size (.slice (some ⟨w.heap.size, 0, none⟩) q q) (upto ws q k) ∧ Below w.heap.size w wr)) (fun i _ => q - (intOf i).toNat)
        case atStart => exact ⟨0, by omega, rfl, HO0⟩
        case round =>
          obtain ⟨k, hk, rfl, HO⟩ := hrel
          by_cases hlt : k < q
          · have hkl : k / 8 < ws.length := by have := HL.out; omega
            obtain ⟨adr, rfl, _, hcell0⟩ := hr.out (k / 8) hkl
            obtain ⟨x8, hx8, ex8⟩ := word_at hw.out hkl
            have hcell := (HO.out.2.cell (p := adr.add (k / 8)) (by rw [add_block]; omega)).trans hcell0
            rw [ex8] at hcell
            obtain ⟨hc1, hf1⟩ := HO.out.1.cell k (by rw [upto_len _ _ _ hk]; exact hlt)
            have HS := Lib.hid (upto_step ws q k hlt)
            obtain ⟨r2, hr2⟩ : ∃ r2, k % 8 = r2 := ⟨_, rfl⟩
            have hr28 : r2 < 8 := by omega
            have hB2 := fun w => byteShift_any k w (by omega)
            rw [hr2] at hB2
            obtain ⟨s2, hs2⟩ : ∃ s2, 8 * r2 = s2 := ⟨_, rfl⟩
            have hs64' : s2 ≤ 56 := by omega
            have hps2 := pow_shift r2
            rw [hs2] at hB2 hps2
            have HB2 := Lib.hid hB2
            obtain ⟨y2, hy2⟩ : ∃ y2 : Int, (x8 : Int) / 2 ^ s2 = y2 := ⟨_, rfl⟩
            obtain ⟨z2, hz2⟩ : ∃ z2 : Int, IntKind.u8.wrap y2 = z2 := ⟨_, rfl⟩
            have hbz : byt ws k = z2 := by
              unfold byt
              rw [← hz2, IntKind.wrap_u8, ← hy2, ex8, hr2, hps2]
            rw [hbz] at HS
            obtain ⟨d, hd⟩ : ∃ d, k / 8 = d := ⟨_, rfl⟩
            rw [hd] at hcell hkl
            have hdi : (k : Int) / 8 = (d : Int) := by omega
            have hdn : d < n := by have := HL.out; omega
            have hwd : IntKind.i64.wrap (d : Int) = (d : Int) := IntWalk.i64_in _ ⟨by omega, by omega⟩
            have hd0 : (0 : Int) ≤ (d : Int) := by omega
            have HOx := Lib.hid ((show OwnInts .u8 5 wr.drew _ _ _ from HO.out.1).stored (upto_len _ _ _ hk) k z2)
            have HBx : Hid (Below w.heap.size w (wr.drew.setCell ⟨w.heap.size, k, none⟩ (.int .u8 z2))) := Lib.hid (HO.out.2.drew.setCell (Nat.le_refl _) _)
            rw [HS.out] at HOx
            have hf2 : wr.drew.frozen? ⟨w.heap.size, k, none⟩ = false := hf1
            have hc2 := (show wr.drew.cell? ⟨w.heap.size, k, none⟩ = _ from hc1)
            clear hr2 hB2 hs2 hps2 hbz hd hkl ex8 hcell0 hc1 hf1 HS
            go_wp2
            go_still_tail 11, (by kernel_rfl)
            still_call (HB2.out _)
            repeat still_step
            try refine wpStill_nil ?_
            change wpList _ _ _ _ _ wr.drew
            generalize wr.drew = wd at *
            clear hcell HO hwd HB2
            go_wp2
            go_roundw
            case rel => exact ⟨k + 1, by omega, by go_num, Lib.hid ⟨HOx.out, HBx.out⟩⟩
            case measure => simp [intOf]; omega
          · have hkq : k = q := by omega
            subst hkq
            go_wp2
            go_ret2
            exact ⟨_, _, _, rfl, Lib.hid (by have := HO.out; rw [upto_full] at this; exact this), Lib.hid (.inr (.inr ⟨hq0, by simpa using HOK2.out, rfl, by simp⟩))⟩
      · have hrz' : ¬ ((r : Int) = 0) := by omega
        have hn1 : n - 1 < ws.length := by have := HL.out; omega
        obtain ⟨ad, rfl, _, hcell⟩ := hr.out (n - 1) hn1
        obtain ⟨x, hxl, ex⟩ := word_at hw.out hn1
        rw [ex] at hcell HOK
        have hBS := fun w => byteShift_any q w hq
        rw [hrr] at hBS
        obtain ⟨s, hs⟩ : ∃ s, 8 * r = s := ⟨_, rfl⟩
        have hs64 : s ≤ 56 := by omega
        have hps := pow_shift r
        rw [hs] at hBS hps
        have HBS := Lib.hid hBS
        obtain ⟨y, hy⟩ : ∃ y : Int, (x : Int) / 256 ^ r = y := ⟨_, rfl⟩
        rw [hy] at HOK
        have hxy : (x : Int) / 2 ^ s = y := by rw [hps]; exact hy
        obtain ⟨n1, hn1'⟩ : ∃ n1, n - 1 = n1 := ⟨_, rfl⟩
        rw [hn1'] at hcell hn1
        have hnn1 : IntKind.i64.wrap ((n : Int) - 1) = (n1 : Int) := by rw [IntKind.wrap_i64]; omega
        have hnn2 : n1 < n := by omega
        clear hn1 ex hBS hs hps hy hn1' hnw HC
        by_cases hy0 : y = 0
        · have HOK2 := Lib.hid (HOK.out.2 ⟨rfl, fun _ => hy0⟩)
          subst hy0
          go_enter Try.func24, Try.ntmps24
          go_wp2_with (go_at_call 41; refine (HD.out).mono ?_; rintro e w' ⟨rfl, rfl⟩)
          go_quiet ((go_at_call 42; exact Calls.quiet_of_same (HBS.out _)))
          go_wp2_with (first
            | (at_make; refine wpList_make_full _ rfl _ _ 39 rfl w.heap.size 5 i0 (.int .u8 0) 1 Try.underlying39 HI.out HZ0.out HZ1.out .i64 .i64 (q : Int) (q : Int) q rfl rfl rfl rfl (by rw [HZ2.out]; omega) (by simp [maxLen]; omega) (Nat.le_refl _) ?_; intro w1 ho1 hg1))
          have HO0 : Hid (OwnInts .u8 5 w1 w.heap.size (.slice (some ⟨w.heap.size, 0, none⟩) q q) (upto ws q 0) ∧ Below w.heap.size w w1) := Lib.hid ⟨by rw [upto_zero]; exact OwnInts.made ho1, (below_draws (Below.refl _ _) nq).grown hg1 (Nat.le_refl _) (fun k hk => by cases hk)⟩
          clear ho1 hg1
          go_loopw [34] (fun i wr => ∃ k : Nat, k ≤ q ∧ i = .int .i64 k ∧ Hid (OwnInts .u8 5 wr w.heap.size (.slice (some ⟨w.heap.size, 0, none⟩) q q) (upto ws q k) ∧ Below w.heap.size w wr)) (fun i _ => q - (intOf i).toNat)
          case atStart => exact ⟨0, by omega, rfl, HO0⟩
          case round =>
            obtain ⟨k, hk, rfl, HO⟩ := hrel
            by_cases hlt : k < q
            · have hkl : k / 8 < ws.length := by have := HL.out; omega
              obtain ⟨adr, hadr, _, hcell0⟩ := hr.out (k / 8) hkl
              injection hadr with hadr; subst hadr
              obtain ⟨x8, hx8, ex8⟩ := word_at hw.out hkl
              have hcell := (HO.out.2.cell (p := ad.add (k / 8)) (by rw [add_block]; omega)).trans hcell0
              rw [ex8] at hcell
              obtain ⟨hc1, hf1⟩ := HO.out.1.cell k (by rw [upto_len _ _ _ hk]; exact hlt)
              have HS := Lib.hid (upto_step ws q k hlt)
              obtain ⟨r2, hr2⟩ : ∃ r2, k % 8 = r2 := ⟨_, rfl⟩
              have hr28 : r2 < 8 := by omega
              have hB2 := fun w => byteShift_any k w (by omega)
              rw [hr2] at hB2
              obtain ⟨s2, hs2⟩ : ∃ s2, 8 * r2 = s2 := ⟨_, rfl⟩
              have hs64' : s2 ≤ 56 := by omega
              have hps2 := pow_shift r2
              rw [hs2] at hB2 hps2
              have HB2 := Lib.hid hB2
              obtain ⟨y2, hy2⟩ : ∃ y2 : Int, (x8 : Int) / 2 ^ s2 = y2 := ⟨_, rfl⟩
              obtain ⟨z2, hz2⟩ : ∃ z2 : Int, IntKind.u8.wrap y2 = z2 := ⟨_, rfl⟩
              have hbz : byt ws k = z2 := by
                unfold byt
                rw [← hz2, IntKind.wrap_u8, ← hy2, ex8, hr2, hps2]
              rw [hbz] at HS
              obtain ⟨d, hd⟩ : ∃ d, k / 8 = d := ⟨_, rfl⟩
              rw [hd] at hcell hkl
              have hdi : (k : Int) / 8 = (d : Int) := by omega
              have hdn : d < n := by have := HL.out; omega
              have hwd : IntKind.i64.wrap (d : Int) = (d : Int) := IntWalk.i64_in _ ⟨by omega, by omega⟩
              have hd0 : (0 : Int) ≤ (d : Int) := by omega
              have HOx := Lib.hid ((show OwnInts .u8 5 wr.drew _ _ _ from HO.out.1).stored (upto_len _ _ _ hk) k z2)
              have HBx : Hid (Below w.heap.size w (wr.drew.setCell ⟨w.heap.size, k, none⟩ (.int .u8 z2))) := Lib.hid (HO.out.2.drew.setCell (Nat.le_refl _) _)
              rw [HS.out] at HOx
              have hf2 : wr.drew.frozen? ⟨w.heap.size, k, none⟩ = false := hf1
              have hc2 := (show wr.drew.cell? ⟨w.heap.size, k, none⟩ = _ from hc1)
              clear hr2 hB2 hs2 hps2 hbz hd hkl ex8 hcell0 hc1 hf1 HS
              go_wp2
              go_still_tail 11, (by kernel_rfl)
              still_call (HB2.out _)
              repeat still_step
              try refine wpStill_nil ?_
              change wpList _ _ _ _ _ wr.drew
              generalize wr.drew = wd at *
              clear hcell HO hwd HB2
              go_wp2
              go_roundw
              case rel => exact ⟨k + 1, by omega, by go_num, Lib.hid ⟨HOx.out, HBx.out⟩⟩
              case measure => simp [intOf]; omega
            · have hkq : k = q := by omega
              subst hkq
              go_wp2
              go_ret2
              exact ⟨_, _, _, rfl, Lib.hid (by have := HO.out; rw [upto_full] at this; exact this), Lib.hid (.inr (.inr ⟨hq0, by simpa using HOK2.out, rfl, by simp⟩))⟩
        · go_enter Try.func24, Try.ntmps24
          go_wp2_with (go_at_call 41; refine (HD.out).mono ?_; rintro e w' ⟨rfl, rfl⟩)
          go_quiet ((go_at_call 42; exact Calls.quiet_of_same (HBS.out _)))
          have hyb : (y != 0) = true := by simpa using hy0
          have hrb : ((r : Int) != 0) = true := by simpa using hrz'
          have hno : Hid (¬ (((r : Int) != 0) = false ∨ (y != 0) = false)) := Lib.hid (by rw [hyb, hrb]; simp)
          go_wp2
          go_ret2
          exact ⟨_, _, _, rfl, Lib.hid ⟨OwnInts.nil_ _ _ _ _, below_draws (Below.refl _ _) _⟩, Lib.hid (.inr (.inl ⟨hq0, by intro h; exact hy0 ((HOK.out.1 h).2 (by omega)), rfl, rfl⟩))⟩
          all_goals (exact absurd (by assumption) hno.out)
    · have hni : ¬ ((n : Int) = (nw : Int)) := by omega
      clear hnw HC
      go_enter Try.func24, Try.ntmps24
      go_wp2_with (go_at_call 41; refine (HD.out).mono ?_; rintro e w' ⟨rfl, rfl⟩)
      go_ret2
      exact ⟨_, _, _, rfl, Lib.hid ⟨OwnInts.nil_ _ _ _ _, Below.refl _ _⟩, Lib.hid (.inr (.inl ⟨hq0, by intro h; exact hnn (HOK.out.1 h).1, rfl, rfl⟩))⟩
end Go.Proofs.Ytgfiddjlbjlolaa.Base
