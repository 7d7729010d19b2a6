/-
  CONTRACT: the reference's Unpack.
-/
import Derived.Test.YtgfiddjlbjlolaaUnpack
namespace Go.Proofs.Ytgfiddjlbjlolaa.Base
open Go.ChangeShapes Go.WideShapes Go.ChangeAt Go.RowKit Go.Proofs.Ytgfiddjlbjlolaa.PackMath Go.Proofs.Ytgfiddjlbjlolaa.Law Go.Proofs.Ytgfiddjlbjlolaa.Args Go.Proofs.Ytgfiddjlbjlolaa.Own
theorem runpack_any (A : Option Addr) (n cap B : Nat) (ws : List Int) (m : Int) (w : World) (hl : ws.length = n) (hn : n * 8 ≤ 140737488351232 + 8) (hm1 : -9223372036854775808 ≤ m) (hm2 : m ≤ 9223372036854775807) (hr : Hid (IntsAt .u64 w B A ws)) (hB : B ≤ w.heap.size) (hw : Hid (∀ z ∈ ws, 0 ≤ z ∧ z ≤ 18446744073709551615)) :
    Calls Try.prog 26 #[.slice A n cap, .int .i64 m] w fun e w' => ∃ v E l, e = .returned (.tuple #[v, .int .i64 E]) ∧ Hid (OwnInts .u8 5 w' w.heap.size v l ∧ Below w.heap.size w w') ∧
      Hid ((m < 0 ∧ E = 1 ∧ l = []) ∨ (0 ≤ m ∧ ¬ unpOk ws m.toNat ∧ E = 11 ∧ l = []) ∨ (0 ≤ m ∧ unpOk ws m.toNat ∧ E = 0 ∧ l = unp ws m.toNat)) := by
  have HL := Lib.hid hl
  obtain ⟨i0, hi, hz0, hz1, hz2⟩ := info_parts info8
  have HI := Lib.hid hi
  have HZ0 := Lib.hid hz0
  have HZ1 := Lib.hid hz1
  have HZ2 := Lib.hid hz2
  clear hl hi hz0 hz1 hz2
  by_cases hm : m < 0
  · go_enter Try.func26, Try.ntmps26
    go_wp2
    go_ret2
    exact ⟨_, _, _, rfl, Lib.hid ⟨OwnInts.nil_ _ _ _ _, Below.refl _ _⟩, Lib.hid (.inl ⟨hm, rfl, rfl⟩)⟩
  · obtain ⟨q, rfl⟩ := Int.eq_ofNat_of_zero_le (show 0 ≤ m by omega)
    have hq0 : (0 : Int) ≤ (q : Int) := by omega
    have hq : q ≤ 9223372036854775807 := by omega
    clear hm hm1 hm2
    obtain ⟨qd, hqd⟩ : ∃ qd, q / 8 = qd := ⟨_, rfl⟩
    have hqi : (q : Int) / 8 = (qd : Int) := by omega
    have hqw : IntKind.i64.wrap (qd : Int) = (qd : Int) := IntWalk.i64_in _ ⟨by omega, by omega⟩
    rcases Nat.eq_zero_or_pos q with h0 | h0
    · have hq1 : IntKind.i64.wrap ((0 : Int) - 1) = -1 := by decide
      have hq1' : (-1 : Int).tdiv 8 = 0 := by decide
      by_cases hn0 : n = 0
      · have HOK : Hid (unpOk ws q) := Lib.hid ⟨by have := HL.out; omega, fun h => absurd h (by omega)⟩
        have hd0 : qd = 0 := by omega
        subst hd0 h0 hn0
        clear hqd hqi hqw
        go_enter Try.func26, Try.ntmps26
        go_wp2
        go_loopw [6, 7] (fun v i wr => v = .slice none 0 0 ∧ i = .int .i64 0 ∧ wr = w) (fun _ _ _ => 0)
        case atStart => exact ⟨rfl, rfl, rfl⟩
        case round =>
          obtain ⟨rfl, rfl, rfl⟩ := hrel
          go_wp2
          go_ret2
          exact ⟨_, _, _, rfl, Lib.hid ⟨OwnInts.nil_ _ _ _ _, Below.refl _ _⟩, Lib.hid (.inr (.inr ⟨hq0, by simpa using HOK.out, rfl, by simp [unp_zero]⟩))⟩
      · have HOK : Hid (¬ unpOk ws q) := Lib.hid (fun h => by have := HL.out; have := h.1; omega)
        have hn1 : (0 : Int) < (n : Int) := by omega
        have hn2 : ¬ ((1 : Int) = (n : Int)) ∨ (1 : Int) = (n : Int) := by omega
        have hd0 : qd = 0 := by omega
        subst hd0 h0
        clear hqd hqi hqw
        rcases hn2 with hn2 | hn2
        all_goals
          go_enter Try.func26, Try.ntmps26
          go_wp2
          go_ret2
          exact ⟨_, _, _, rfl, Lib.hid ⟨OwnInts.nil_ _ _ _ _, Below.refl _ _⟩, Lib.hid (.inr (.inl ⟨hq0, by simpa using HOK.out, rfl, rfl⟩))⟩
    · obtain ⟨q1, hq1⟩ : ∃ q1, q - 1 = q1 := ⟨_, rfl⟩
      have hqw1 : IntKind.i64.wrap ((q : Int) - 1) = (q1 : Int) := by rw [IntKind.wrap_i64]; omega
      obtain ⟨d1, hd1⟩ : ∃ d1, q1 / 8 = d1 := ⟨_, rfl⟩
      have hdi1 : (q1 : Int) / 8 = (d1 : Int) := by omega
      have hdw1 : IntKind.i64.wrap (d1 : Int) = (d1 : Int) := IntWalk.i64_in _ ⟨by omega, by omega⟩
      have hqz : ¬ ((q : Int) = 0) := by omega
      have hq00 : (0 : Int) < (q : Int) := by omega
      by_cases hnn : n = d1 + 1
      · have hl8 : ws.length = (q + 7) / 8 := by have := HL.out; omega
        have HL8 := Lib.hid hl8
        have hdn : IntKind.i64.wrap ((d1 : Int) + 1) = (n : Int) := by rw [IntKind.wrap_i64]; omega
        have hqn : ¬ ((n : Int) < (qd : Int)) := by omega
        have hqd' : decide ((n : Int) < (qd : Int)) = false := by simpa using hqn
        obtain ⟨N, hN⟩ : ∃ N, 8 * n = N := ⟨_, rfl⟩
        have hNw : IntKind.i64.wrap (8 * (n : Int)) = (N : Int) := by rw [IntKind.wrap_i64]; omega
        have hNq : q ≤ N := by omega
        have hN2 : N ≤ 140737488351240 := by omega
        clear hnn hl8 hq1 hqd hd1
        go_enter Try.func26, Try.ntmps26
        go_wp2
        go_loopw [6, 7] (fun v i wr => ∃ k : Nat, k ≤ N ∧ i = .int .i64 k ∧ Hid ((∀ j, q ≤ j → j < k → byt ws j = 0) ∧ OwnInts .u8 5 wr w.heap.size v (unp ws (min k q)) ∧ Below w.heap.size w wr)) (fun _ i _ => N - (intOf i).toNat)
        case atStart => exact ⟨0, by omega, rfl, Lib.hid ⟨fun j _ h => absurd h (by omega), by rw [Nat.zero_min]; exact OwnInts.nil_ _ _ _ _, Below.refl _ _⟩⟩
        case round =>
          obtain ⟨k, hk, rfl, HO⟩ := hrel
          by_cases hlt : k < N
          · have hkl : k / 8 < ws.length := by have := HL.out; omega
            obtain ⟨ad, rfl, _, hcell0⟩ := hr.out (k / 8) hkl
            obtain ⟨x8, hx8, ex8⟩ := word_at hw.out hkl
            have hcell := (HO.out.2.2.cell (p := ad.add (k / 8)) (by rw [add_block]; omega)).trans hcell0
            rw [ex8] at hcell
            obtain ⟨r2, hr2⟩ : ∃ r2, k % 8 = r2 := ⟨_, rfl⟩
            have hr28 : r2 < 8 := by omega
            have htm : (k : Int).tmod 8 = (r2 : Int) := by rw [Int.tmod_eq_emod_of_nonneg (by omega)]; omega
            obtain ⟨s2, hs2⟩ : ∃ s2, 8 * r2 = s2 := ⟨_, rfl⟩
            have hs64' : s2 ≤ 56 := by omega
            have hs20 : (0 : Int) ≤ (s2 : Int) := by omega
            have hws : IntKind.i64.wrap (8 * (r2 : Int)) = (s2 : Int) := by rw [IntKind.wrap_i64]; omega
            have hps2 := pow_shift r2
            rw [hs2] at hps2
            obtain ⟨y2, hy2⟩ : ∃ y2 : Int, (x8 : Int) / 2 ^ s2 = y2 := ⟨_, rfl⟩
            obtain ⟨z2, hz2⟩ : ∃ z2 : Int, IntKind.u8.wrap y2 = z2 := ⟨_, rfl⟩
            have hbz : byt ws k = z2 := by
              unfold byt
              rw [← hz2, IntKind.wrap_u8, ← hy2, ex8, hr2, hps2]
            have HBZ := Lib.hid hbz
            obtain ⟨d, hd⟩ : ∃ d, k / 8 = d := ⟨_, rfl⟩
            rw [hd] at hcell hkl
            have hdi : (k : Int) / 8 = (d : Int) := by omega
            have hdn : d < n := by have := HL.out; omega
            have hwd : IntKind.i64.wrap (d : Int) = (d : Int) := IntWalk.i64_in _ ⟨by omega, by omega⟩
            have hd0 : (0 : Int) ≤ (d : Int) := by omega
            clear hr2 hs2 hps2 hbz hd hkl ex8 hcell0
            by_cases hkq : k < q
            · have HU : Hid (unp ws (min k q) ++ [z2] = unp ws (min (k + 1) q)) := Lib.hid (by rw [Nat.min_eq_left (by omega), Nat.min_eq_left (by omega), unp_succ, HBZ.out])
              have HU2 : Hid ((unp ws (min k q)).length = k) := Lib.hid (by rw [unp_len, Nat.min_eq_left (by omega)])
              go_wp2_with (first
                | (at_builtin; refine wpList_app (by simp [Region.wanted, yielded]) (.tmp 58) (.tmp 60) 39 rfl (v := u6) (B := wr.heap.size + 1) (c := 1) (A := some ⟨wr.heap.size, 0, none⟩) (zs := [z2]) Try.underlying39 HI.out HZ0.out HZ1.out HZ2.out rfl rfl (HO.out.2.1.alloc _) rfl (IntsAt.new .u8 wr 5 (0, 0) [z2]) rfl (by rw [HU2.out]; simp [maxLen]; omega) (by rw [HU2.out]; omega) (Nat.le_trans HO.out.2.2.size (by simp)) ?_; intro v2 w2 ho2 hg2 ha2; have hb2 := HO.out.2.2.trans (((Below.refl w.heap.size wr).alloc HO.out.2.2.size _).trans ((HO.out.2.1.alloc _).grownBelow hg2 (Nat.le_trans HO.out.2.2.size (by simp)))); rw [HU.out] at ho2; have HQ := Lib.hid (And.intro ho2 hb2); clear ho2 hg2 ha2 hb2))
              go_roundw
              case rel => exact ⟨k + 1, by omega, by go_num, Lib.hid ⟨fun j h1 h2 => absurd h2 (by omega), HQ.out.1, HQ.out.2⟩⟩
              case measure => simp [intOf]; omega
            · by_cases hzz : z2 = 0
              · go_wp2
                go_roundw
                case rel => exact ⟨k + 1, by omega, by go_num, Lib.hid ⟨fun j h1 h2 => by
                    rcases Nat.lt_or_ge j k with h | h
                    · exact HO.out.1 j h1 h
                    · rw [show j = k by omega, HBZ.out, hzz], by have := HO.out.2.1; rw [Nat.min_eq_right (by omega)] at this; rw [Nat.min_eq_right (by omega)]; exact this, HO.out.2.2⟩⟩
                case measure => simp [intOf]; omega
              · have HB := Lib.hid (unp_bad ws q k HL8.out (by omega) (by have := HL.out; omega) (by rw [HBZ.out]; exact hzz))
                go_wp2
                go_ret2
                exact ⟨_, _, _, rfl, Lib.hid ⟨OwnInts.nil_ _ _ _ _, HO.out.2.2⟩, Lib.hid (.inr (.inl ⟨hq0, by simpa using HB.out, rfl, rfl⟩))⟩
          · have HG := Lib.hid (unp_good ws q HL8.out hw.out (fun i h1 h2 => HO.out.1 i h1 (by have := HL.out; omega)))
            have hmn : min k q = q := by omega
            rw [hmn] at HO
            clear hmn
            go_wp2
            go_ret2
            exact ⟨_, _, _, rfl, Lib.hid ⟨HO.out.2.1, HO.out.2.2⟩, Lib.hid (.inr (.inr ⟨hq0, by simpa using HG.out, rfl, by simp⟩))⟩
      · have HOK : Hid (¬ unpOk ws q) := Lib.hid (fun h => by have := HL.out; have := h.1; omega)
        have hwd2 : IntKind.i64.wrap ((d1 : Int) + 1) = (d1 : Int) + 1 := by rw [IntKind.wrap_i64]; omega
        have hne : ¬ ((d1 : Int) + 1 = (n : Int)) := by omega
        clear hnn hq1 hqd hd1
        by_cases hqn : (n : Int) < (qd : Int)
        · go_enter Try.func26, Try.ntmps26
          go_wp2
          go_ret2
          exact ⟨_, _, _, rfl, Lib.hid ⟨OwnInts.nil_ _ _ _ _, Below.refl _ _⟩, Lib.hid (.inr (.inl ⟨hq0, by simpa using HOK.out, rfl, rfl⟩))⟩
        · have hqd' : decide ((n : Int) < (qd : Int)) = false := by simpa using hqn
          go_enter Try.func26, Try.ntmps26
          go_wp2
          go_ret2
          exact ⟨_, _, rfl, _, Lib.hid ⟨OwnInts.nil_ _ _ _ _, Below.refl _ _⟩, Lib.hid (.inr (.inl ⟨by simpa using HOK.out, rfl, rfl⟩))⟩
end Go.Proofs.Ytgfiddjlbjlolaa.Base
