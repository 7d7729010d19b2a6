/-
  CONTRACTS: word.wordsFor, byteShift, Pack; the reference's Pack, Same, SameBytes.
-/
import Derived.Test.YtgfiddjlbjlolaaAwake
import Derived.Test.YtgfiddjlbjlolaaPackMath
import Derived.Test.YtgfiddjlbjlolaaOwn
import Derived.StillTailTactics
import Derived.RegionTactic
namespace Go.Proofs.Ytgfiddjlbjlolaa.Base
open Go.ChangeShapes Go.WideShapes Go.ChangeAt Go.RowKit Go.Proofs.Ytgfiddjlbjlolaa.PackMath Go.Proofs.Ytgfiddjlbjlolaa.Law Go.Proofs.Ytgfiddjlbjlolaa.Args Go.Proofs.Ytgfiddjlbjlolaa.Own
theorem info64 : (Try.prog.info? 22).map (fun i => (i.zero, i.size, i.bytes)) = some (some (.int .u64 0), 1, 8) := by kernel_rfl
theorem info8 : (Try.prog.info? 5).map (fun i => (i.zero, i.size, i.bytes)) = some (some (.int .u8 0), 1, 1) := by kernel_rfl
theorem wordsFor_any (n : Nat) (w : World) (hn : n ≤ 9223372036854775807) : Calls Try.prog 41 #[.int .i64 (n : Int)] w fun e w' => e = .returned (.int .i64 (((n + 7) / 8 : Nat) : Int)) ∧ w = w' := by
  go_enter Try.func41, Try.ntmps41
  go_wp2
  go_ret
  exact ⟨ret_int (by simp; omega), rfl⟩
theorem byteShift_any (k : Nat) (w : World) (hk : k ≤ 9223372036854775807) : Calls Try.prog 42 #[.int .i64 (k : Int)] w fun e w' => e = .returned (.int .i64 ((8 * (k % 8) : Nat) : Int)) ∧ w' = w := by
  go_enter Try.func42, Try.ntmps42
  go_wp2
  go_ret
  exact ⟨ret_int (by simp; omega), rfl⟩
theorem byte_at {zs : List Int} (hw : ∀ z ∈ zs, (Lit.int .u8 z).wf = true) {k : Nat} (h : k < zs.length) : ∃ b : Nat, b < 256 ∧ zs.getD k 0 = (b : Int) := by
  have := wf_u8 (wf_at hw h)
  exact ⟨(zs.getD k 0).toNat, by omega, by omega⟩
theorem bytes_range {zs : List Int} (hw : ∀ z ∈ zs, (Lit.int .u8 z).wf = true) : ∀ z ∈ zs, 0 ≤ z ∧ z ≤ 255 := fun z hz => wf_u8 (hw z hz)
theorem pack_any (A : Option Addr) (n cap B : Nat) (zs : List Int) (w : World) (hl : zs.length = n) (hn : n ≤ 140737488351232) (hr : Hid (IntsAt .u8 w B A zs)) (hB : B ≤ w.heap.size) (hw : Hid (∀ z ∈ zs, (Lit.int .u8 z).wf = true)) :
    Calls Try.prog 21 #[.slice A n cap] w fun e w' => ∃ v, e = .returned v ∧ Hid (OwnInts .u64 22 w' w.heap.size v (pks zs ((n + 7) / 8)) ∧ Below w.heap.size w w') := by
  have HL := Lib.hid hl
  obtain ⟨i0, hi, hz0, hz1, hz2⟩ := info_parts info64
  have HI := Lib.hid hi
  have HZ0 := Lib.hid hz0
  have HZ1 := Lib.hid hz1
  have HZ2 := Lib.hid hz2
  obtain ⟨nw, hnw⟩ : ∃ nw, (n + 7) / 8 = nw := ⟨_, rfl⟩
  have hw1 : nw ≤ 17592186043905 := by omega
  have hw2 : n ≤ 8 * nw := by omega
  have HC := wordsFor_any n w (by omega)
  rw [hnw] at HC ⊢
  have HD := Lib.hid HC
  clear hl hi hz0 hz1 hz2 hnw HC
  go_enter Try.func21, Try.ntmps21
  go_wp2_with (first
    | (go_at_call 41; refine (HD.out).mono ?_; rintro e w' ⟨rfl, rfl⟩)
    | (at_make; refine wpList_make_full _ rfl _ _ 40 rfl w.heap.size 22 i0 (.int .u64 0) 1 Try.underlying40 HI.out HZ0.out HZ1.out .i64 .i64 (nw : Int) (nw : Int) nw rfl rfl rfl rfl (by rw [HZ2.out]; omega) (by simp [maxLen]; omega) (Nat.le_refl _) ?_; intro w1 ho1 hg1))
  have HO0 : Hid (OwnInts .u64 22 w1 w.heap.size (.slice (some ⟨w.heap.size, 0, none⟩) nw nw) (pks (zs.take 0) nw) ∧ Below w.heap.size w w1) := Lib.hid ⟨by rw [List.take_zero, pks_zero]; exact OwnInts.made ho1, (Below.refl _ _).grown hg1 (Nat.le_refl _) (fun k hk => by cases hk)⟩
  clear ho1 hg1
  go_loopw [12] (fun i wr => ∃ k : Nat, k ≤ n ∧ i = .int .i64 k ∧ Hid (OwnInts .u64 22 wr w.heap.size (.slice (some ⟨w.heap.size, 0, none⟩) nw nw) (pks (zs.take k) nw) ∧ Below w.heap.size w wr)) (fun i _ => n - (intOf i).toNat)
  case atStart => exact ⟨0, by omega, rfl, HO0⟩
  case round =>
    obtain ⟨k, hk, rfl, HO⟩ := hrel
    by_cases hlt : k < n
    · have hkl : k < zs.length := by have := HL.out; omega
      obtain ⟨ad, rfl, hadb, hcell0⟩ := hr.out k hkl
      obtain ⟨b, hb, eb⟩ := byte_at hw.out hkl
      have hcell := (HO.out.2.cell (p := ad.add k) (by rw [add_block]; omega)).trans hcell0
      rw [eb] at hcell
      have hkw : k / 8 < nw := by omega
      obtain ⟨hc1, hf1⟩ := HO.out.1.cell (k / 8) (by rw [pks_len]; exact hkw)
      rw [pks_at _ _ _ hkw] at hc1
      have hsm := pkw_small zs k hkl (bytes_range hw.out)
      have HS := Lib.hid (pks_step zs nw k hkl hkw)
      rw [eb] at HS
      obtain ⟨W8, hW8⟩ := Int.eq_ofNat_of_zero_le hsm.1
      rw [hW8] at hc1 hsm HS
      obtain ⟨r, hrr⟩ : ∃ r, k % 8 = r := ⟨_, rfl⟩
      have hr8 : r < 8 := by omega
      rw [hrr] at hsm HS
      have hWl : W8 < 256 ^ r := by
        have h1 : ((W8 : Nat) : Int) < ((256 ^ r : Nat) : Int) := by rw [Int.natCast_pow]; exact hsm.2
        exact Int.ofNat_lt.1 h1
      obtain ⟨hs1, hs2, hs3⟩ := shl_byte b r hb hr8
      have hs4 := or_byte W8 b r hWl hb hr8
      have HBS := fun h w => byteShift_any k w h
      rw [hrr] at HBS
      have HV : (W8 : Int) + (b : Int) * 256 ^ r = ((W8 + b * 256 ^ r : Nat) : Int) := by rw [Int.natCast_add, Int.natCast_mul, Int.natCast_pow]; rfl
      rw [HV] at HS
      obtain ⟨s, hs⟩ : ∃ s, 8 * r = s := ⟨_, rfl⟩
      have hs64 : s ≤ 56 := by omega
      rw [hs] at hs1 HBS
      obtain ⟨y, hy⟩ : ∃ y, b * 256 ^ r = y := ⟨_, rfl⟩
      rw [hy] at hs1 hs2 hs4 HS
      have hyl : y < 18446744073709551616 := by omega
      have hWl2 : W8 < 18446744073709551616 := by
        have : (256 : Nat) ^ r ≤ 256 ^ (r + 1) := Nat.pow_le_pow_right (by omega) (by omega)
        omega
      obtain ⟨x, hx⟩ : ∃ x, W8 + y = x := ⟨_, rfl⟩
      rw [hx] at hs4 HS
      obtain ⟨d, hd⟩ : ∃ d, k / 8 = d := ⟨_, rfl⟩
      rw [hd] at hc1 hf1 hkw HS
      have hdi : (k : Int) / 8 = (d : Int) := by omega
      have HOx := Lib.hid ((show OwnInts .u64 22 wr.drew _ _ _ from HO.out.1).stored (pks_len _ _) d (x : Int))
      have HBx : Hid (Below w.heap.size w (wr.drew.setCell ⟨w.heap.size, d, none⟩ (.int .u64 (x : Int)))) := Lib.hid (HO.out.2.drew.setCell (Nat.le_refl _) _)
      rw [HS.out] at HOx
      have hf2 : wr.drew.frozen? ⟨w.heap.size, d, none⟩ = false := hf1
      have hc2 : wr.drew.cell? ⟨w.heap.size, d, none⟩ = some (.int .u64 (W8 : Int)) := hc1
      have HBS2 := Lib.hid (HBS (by omega))
      clear hx hy hs hd hrr hsm hWl hs2 hs3 HBS HV hkl eb hcell0 hW8
      have hwd : IntKind.i64.wrap (d : Int) = (d : Int) := IntWalk.i64_in _ ⟨by omega, by omega⟩
      have hd0 : (0 : Int) ≤ (d : Int) := by omega
      have hwb : IntKind.u64.wrap (b : Int) = (b : Int) := IntWalk.u64_in _ ⟨by omega, by omega⟩
      go_wp2
      go_still_tail 12, (by kernel_rfl)
      still_call (HBS2.out _)
      repeat still_step
      refine wpStill_nil ?_
      change wpList _ _ _ _ _ wr.drew
      generalize wr.drew = wd at *
      clear hs1 hs4 hc1 hf1 HBS2 hcell HO hwd hwb HS
      go_wp2
      go_roundw
      case rel => exact ⟨k + 1, by omega, by go_num, Lib.hid ⟨HOx.out, HBx.out⟩⟩
      case measure => simp [intOf]; omega
    · have hk' : zs.length ≤ k := by have := HL.out; omega
      have HT := Lib.hid (List.take_of_length_le hk')
      clear hk'
      go_wp2
      go_ret
      exact ⟨_, rfl, Lib.hid (by have := HO.out; rw [HT.out] at this; exact this)⟩
theorem own_addr {k : IntKind} {e : TypeId} {w : World} {base : Nat} {v : Value} {zs : List Int} (h : OwnInts k e w base v zs) (hn : 0 < zs.length) : ∃ g cap, v = .slice (some ⟨g, 0, none⟩) zs.length cap ∧ base ≤ g ∧ g < w.heap.size := by
  rcases h.2 with ⟨_, h0⟩ | ⟨g, cap, cur, rfl, hb, hg, _⟩
  · omega
  · exact ⟨g, cap, rfl, hb, (Array.getElem?_eq_some_iff.1 hg).1⟩
theorem rpack_any (A : Option Addr) (n cap B : Nat) (zs : List Int) (w : World) (hl : zs.length = n) (hn : n ≤ 140737488351232) (hr : Hid (IntsAt .u8 w B A zs)) (hB : B ≤ w.heap.size) (hw : Hid (∀ z ∈ zs, (Lit.int .u8 z).wf = true)) :
    Calls Try.prog 23 #[.slice A n cap] w fun e w' => ∃ v, e = .returned v ∧ Hid (OwnInts .u64 22 w' w.heap.size v (pks zs ((n + 7) / 8)) ∧ Below w.heap.size w w') := by
  have HL := Lib.hid hl
  obtain ⟨i0, hi, hz0, hz1, hz2⟩ := info_parts info64
  have HI := Lib.hid hi
  have HZ0 := Lib.hid hz0
  have HZ1 := Lib.hid hz1
  have HZ2 := Lib.hid hz2
  clear hl hi hz0 hz1 hz2
  go_enter Try.func23, Try.ntmps23
  go_wp2
  go_loopw [3, 4] (fun v i wr => ∃ k : Nat, k ≤ n ∧ i = .int .i64 k ∧ Hid (OwnInts .u64 22 wr w.heap.size v (pks (zs.take k) ((k + 7) / 8)) ∧ Below w.heap.size w wr)) (fun _ i _ => n - (intOf i).toNat)
  case atStart => exact ⟨0, by omega, rfl, Lib.hid ⟨OwnInts.nil_ _ _ _ _, Below.refl _ _⟩⟩
  case round =>
    obtain ⟨k, hk, rfl, HO⟩ := hrel
    by_cases hlt : k < n
    · have hkl : k < zs.length := by have := HL.out; omega
      obtain ⟨ad, rfl, hadb, hcell00⟩ := hr.out k hkl
      have hcell0 := Lib.hid hcell00
      obtain ⟨b, hb, eb⟩ := byte_at hw.out hkl
      obtain ⟨d, hd⟩ : ∃ d, k / 8 = d := ⟨_, rfl⟩
      have hsm := pkw_small zs k hkl (bytes_range hw.out)
      have HS := Lib.hid (pks_step zs (d + 1) k hkl (by omega))
      have hpg := pks_grow zs k
      rw [eb] at HS
      have hb0 := Lib.hid eb
      rw [hd] at hsm HS hpg
      obtain ⟨W8, hW8⟩ := Int.eq_ofNat_of_zero_le hsm.1
      rw [hW8] at hsm HS
      have HW8 := Lib.hid hW8
      obtain ⟨r, hrr⟩ : ∃ r, k % 8 = r := ⟨_, rfl⟩
      have hr8 : r < 8 := by omega
      rw [hrr] at hsm HS hpg
      have hWl : W8 < 256 ^ r := by
        have h1 : ((W8 : Nat) : Int) < ((256 ^ r : Nat) : Int) := by rw [Int.natCast_pow]; exact hsm.2
        exact Int.ofNat_lt.1 h1
      obtain ⟨hs1, hs2, hs3⟩ := shl_byte b r hb hr8
      have HV : (W8 : Int) + (b : Int) * 256 ^ r = ((W8 + b * 256 ^ r : Nat) : Int) := by rw [Int.natCast_add, Int.natCast_mul, Int.natCast_pow]; rfl
      rw [HV] at HS
      obtain ⟨s, hs⟩ : ∃ s, 8 * r = s := ⟨_, rfl⟩
      have hs64 : s ≤ 56 := by omega
      rw [hs] at hs1
      obtain ⟨y, hy⟩ : ∃ y, b * 256 ^ r = y := ⟨_, rfl⟩
      rw [hy] at hs1 hs2 HS
      have hxl : W8 + y < 18446744073709551616 := by
        have h1 : (256 : Nat) ^ r * 256 = 256 ^ (r + 1) := (Nat.pow_succ ..).symm
        have h2 : b * 256 ^ r ≤ 255 * 256 ^ r := Nat.mul_le_mul_right _ (by omega)
        omega
      obtain ⟨x, hx⟩ : ∃ x, W8 + y = x := ⟨_, rfl⟩
      rw [hx] at HS
      have hx0 := Lib.hid (show IntKind.u64.wrap ((W8 : Int) + (y : Int)) = (x : Int) by rw [IntKind.wrap_u64]; omega)
      have hss0 := Lib.hid hs1
      have hws0 := Lib.hid (show IntKind.i64.wrap (8 * (r : Int)) = (s : Int) by rw [IntKind.wrap_i64]; omega)
      have hdi : (k : Int) / 8 = (d : Int) := by omega
      have hri : (k : Int) % 8 = (r : Int) := by omega
      have htm : (k : Int).tmod 8 = (r : Int) := by rw [Int.tmod_eq_emod_of_nonneg (by omega)]; exact hri
      have hwd : IntKind.i64.wrap (d : Int) = (d : Int) := IntWalk.i64_in _ ⟨by omega, by omega⟩
      have hwr : IntKind.i64.wrap (r : Int) = (r : Int) := IntWalk.i64_in _ ⟨by omega, by omega⟩
      have hd0 : (0 : Int) ≤ (d : Int) := by omega
      have hs0 : (0 : Int) ≤ (s : Int) := by omega
      have hwb : IntKind.u64.wrap (b : Int) = (b : Int) := IntWalk.u64_in _ ⟨by omega, by omega⟩
      obtain ⟨m1, hm1⟩ : ∃ m1, d + 1 = m1 := ⟨_, rfl⟩
      rw [hm1] at HS hpg
      have hdm : d < m1 := by omega
      have hk8 := Lib.hid (show (k + 1 + 7) / 8 = m1 by omega)
      have hdn : 8 * m1 ≤ k + 8 := by omega
      by_cases h8 : r = 0
      · have hq : (k + 7) / 8 = d := by omega
        rw [hq] at HO
        have HP := Lib.hid (hpg h8)
        have ht8 : ((r : Int) = 0) := by omega
        clear hx hy hs hsm hWl hs2 hs3 HV hkl eb hcell00 hW8 hs1 hpg hq hd hrr hm1
        go_wp2_with (first
          | (at_builtin; refine wpList_app (by simp [Region.wanted, yielded]) (.tmp 14) (.tmp 15) 40 rfl (v := u3) (B := wr.heap.size + 1) (c := 1) (A := some ⟨wr.heap.size, 0, none⟩) (zs := [0]) Try.underlying40 HI.out HZ0.out HZ1.out HZ2.out rfl rfl (HO.out.1.alloc _) rfl (IntsAt.new .u64 wr 22 (0, 0) [0]) rfl (by rw [pks_len]; simp [maxLen]; omega) (by rw [pks_len]; omega) (Nat.le_trans HO.out.2.size (by simp)) ?_; intro v2 w2 ho2 hg2 ha2; have hb2 := HO.out.2.trans (((Below.refl w.heap.size wr).alloc HO.out.2.size _).trans ((HO.out.1.alloc _).grownBelow hg2 (Nat.le_trans HO.out.2.size (by simp)))); rw [HP.out] at ho2; have HQ := Lib.hid (And.intro ho2 hb2); clear ho2 hg2 ha2 hb2 HO))
        clear ht8 h8
        obtain ⟨g, cap', rfl, hgb, hgs⟩ := own_addr HQ.out.1 (by rw [pks_len]; omega)
        rw [pks_len] at HQ ⊢
        have hcell := (HQ.out.2.cell (p := ad.add k) (by rw [add_block]; omega)).trans hcell0.out
        obtain ⟨hc1, hf1⟩ := HQ.out.1.cell d (by rw [pks_len]; omega)
        rw [pks_at _ _ _ (by omega), HW8.out] at hc1
        have HOx := Lib.hid ((show OwnInts .u64 22 w2.drew _ _ _ from HQ.out.1).stored (pks_len _ _) d (x : Int))
        have HBx : Hid (Below w.heap.size w (w2.drew.setCell ⟨g, d, none⟩ (.int .u64 (x : Int)))) := Lib.hid (HQ.out.2.drew.setCell hgb _)
        rw [HS.out] at HOx
        have hf2 : w2.drew.frozen? ⟨g, d, none⟩ = false := hf1
        have hc2 : w2.drew.cell? ⟨g, d, none⟩ = some (.int .u64 (W8 : Int)) := hc1
        have hb1 := hb0.out
        rw [hb1] at hcell
        have hws := hws0.out
        have hss := hss0.out
        have hx2 := hx0.out
        go_still_tail 16, (by kernel_rfl)
        repeat still_step
        try refine wpStill_nil ?_
        change wpList _ _ _ _ _ w2.drew
        generalize w2.drew = wd at *
        clear hc1 hf1 hcell HQ hws hss hx2
        go_wp2
        go_roundw
        case rel => exact ⟨k + 1, by omega, by go_num, Lib.hid (by rw [hk8.out]; exact ⟨HOx.out, HBx.out⟩)⟩
        case measure => simp [intOf]; omega
      · have hq : (k + 7) / 8 = m1 := by omega
        rw [hq] at HO
        have ht8 : ¬ ((r : Int) = 0) := by omega
        clear hx hy hs hsm hWl hs2 hs3 HV hkl eb hcell00 hW8 hs1 hpg hq hd hrr hm1
        obtain ⟨w2, hw2⟩ : ∃ w2, w2 = wr := ⟨_, rfl⟩
        have HQ := HO
        go_wp2
        clear ht8 h8
        obtain ⟨g, cap', rfl, hgb, hgs⟩ := own_addr HQ.out.1 (by rw [pks_len]; omega)
        rw [pks_len] at HQ ⊢
        have hcell := (HQ.out.2.cell (p := ad.add k) (by rw [add_block]; omega)).trans hcell0.out
        obtain ⟨hc1, hf1⟩ := HQ.out.1.cell d (by rw [pks_len]; omega)
        rw [pks_at _ _ _ (by omega), HW8.out] at hc1
        have HOx := Lib.hid ((show OwnInts .u64 22 wr.drew _ _ _ from HQ.out.1).stored (pks_len _ _) d (x : Int))
        have HBx : Hid (Below w.heap.size w (wr.drew.setCell ⟨g, d, none⟩ (.int .u64 (x : Int)))) := Lib.hid (HQ.out.2.drew.setCell hgb _)
        rw [HS.out] at HOx
        have hf2 : wr.drew.frozen? ⟨g, d, none⟩ = false := hf1
        have hc2 : wr.drew.cell? ⟨g, d, none⟩ = some (.int .u64 (W8 : Int)) := hc1
        have hb1 := hb0.out
        rw [hb1] at hcell
        have hws := hws0.out
        have hss := hss0.out
        have hx2 := hx0.out
        go_still_tail 16, (by kernel_rfl)
        repeat still_step
        try refine wpStill_nil ?_
        change wpList _ _ _ _ _ wr.drew
        generalize wr.drew = wd at *
        clear hc1 hf1 hcell HQ hws hss hx2
        go_wp2
        go_roundw
        case rel => exact ⟨k + 1, by omega, by go_num, Lib.hid (by rw [hk8.out]; exact ⟨HOx.out, HBx.out⟩)⟩
        case measure => simp [intOf]; omega
    · have hk' : zs.length ≤ k := by have := HL.out; omega
      have hkn : k = n := by omega
      subst hkn
      have HT := Lib.hid (List.take_of_length_le hk')
      clear hk'
      go_wp2
      go_ret
      exact ⟨_, rfl, Lib.hid (by have := HO.out; rw [HT.out] at this; exact this)⟩
end Go.Proofs.Ytgfiddjlbjlolaa.Base
