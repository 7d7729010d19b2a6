/-
  CONTRACT: the reference's Burst.
-/
import Derived.Test.YtehojhgpgliemaaDoorBurst
namespace Go.Proofs.YtehojhgpgliemaaDoor.CrcMath
/-- No round strikes: nothing turns. -/
theorem brs_none (zs : List Int) (bit : Int) (pat : Nat) (h : bit < -31 ∨ 8 * (zs.length : Int) ≤ bit) : ∀ j : Nat, j ≤ 32 → brs zs bit pat j = zs := by
  intro j
  induction j with
  | zero => intro _; rfl
  | succ j ih =>
    intro hj
    unfold brs
    rw [if_neg (fun hh => by have := hh.2; omega), ih (by omega)]
end Go.Proofs.YtehojhgpgliemaaDoor.CrcMath
namespace Go.Proofs.YtehojhgpgliemaaDoor.Base
open Go.ChangeShapes Go.WideShapes Go.ChangeAt Go.RowKit Go.Proofs.YtehojhgpgliemaaDoor.CrcMath Go.Proofs.YtehojhgpgliemaaDoor.Law Go.Proofs.YtehojhgpgliemaaDoor.Args Go.Proofs.YtehojhgpgliemaaDoor.Own
theorem own_addr {k : IntKind} {e : TypeId} {w : World} {base : Nat} {v : Value} {zs : List Int} (h : OwnInts k e w base v zs) (hn : 0 < zs.length) : ∃ g cap, v = .slice (some ⟨g, 0, none⟩) zs.length cap ∧ base ≤ g ∧ g < w.heap.size := by
  rcases h.2 with ⟨_, h0⟩ | ⟨g, cap, cur, rfl, hb, hg, _⟩
  · omega
  · exact ⟨g, cap, rfl, hb, (Array.getElem?_eq_some_iff.1 hg).1⟩
theorem rburst_any (A : Option Addr) (n cap B : Nat) (zs : List Int) (bit : Int) (pat : Nat) (w : World) (hl : zs.length = n) (hr : Hid (IntsAt .u8 w B A zs)) (hB : B ≤ w.heap.size) (hw : Hid (∀ z ∈ zs, (Lit.int .u8 z).wf = true)) (hp : pat < 4294967296) (hb1 : -9223372036854775808 ≤ bit) (hb2 : bit ≤ 9223372036854775807) (hn2 : n ≤ 140737488351232) :
    Calls Tryd.prog 26 #[.slice A n cap, .int .i64 bit, .int .u32 (pat : Int)] w fun e w' => ∃ v, e = .returned v ∧ Hid (OwnInts .u8 5 w' w.heap.size v (brs zs bit pat 32) ∧ Below w.heap.size w w') := by
  have HL := Lib.hid hl
  obtain ⟨i0, hi, hz0, hz1, hz2⟩ := info_parts info8
  have HI := Lib.hid hi
  have HZ0 := Lib.hid hz0
  have HZ1 := Lib.hid hz1
  have HZ2 := Lib.hid hz2
  clear hl hi hz0 hz1 hz2
  have HO0 : Hid (OwnInts .u8 5 (w.alloc (.cells #[] 5)) w.heap.size (.slice (some ⟨w.heap.size, 0, none⟩) 0 0) [] ∧ Below w.heap.size w (w.alloc (.cells #[] 5))) := Lib.hid ⟨OwnInts.empty _ _ w (Nat.le_refl _), (Below.refl _ _).alloc (Nat.le_refl _) _⟩
  obtain ⟨N, hN⟩ : ∃ N, 8 * n = N := ⟨_, rfl⟩
  have hNw : IntKind.i64.wrap (8 * (n : Int)) = (N : Int) := by rw [IntKind.wrap_i64]; omega
  by_cases he : bit < -31
  · have HN := Lib.hid (brs_none zs bit pat (.inl he) 32 (by omega))
    clear hN
    go_enter Tryd.func26, Tryd.ntmps26
    go_wp2_with ((at_builtin; refine wpList_app (by simp [Region.wanted, yielded]) (.tmp 10) (.tmp 11) 22 rfl (v := .slice (some ⟨w.heap.size, 0, none⟩) 0 0) (B := B) (c := cap) (zs := zs) Tryd.underlying22 HI.out HZ0.out HZ1.out HZ2.out rfl rfl HO0.out.1 rfl (hr.out.below (HO0.out.2.mono hB)) HL.out (by simp [maxLen]; omega) (by simp; omega) HO0.out.2.size ?_; intro v2 w2 ho2 hg2 ha2; have HO2 : Hid (OwnInts .u8 5 w2 w.heap.size v2 (brs zs bit pat 0) ∧ Below w.heap.size w w2) := Lib.hid ⟨by rw [List.nil_append] at ho2; exact ho2, HO0.out.2.trans (HO0.out.1.grownBelow hg2 HO0.out.2.size)⟩; clear ho2 hg2 ha2))
    go_ret
    exact ⟨_, rfl, Lib.hid (by rw [HN.out]; exact HO2.out)⟩
  have hed : decide (bit < -31) = false := by simpa using he
  by_cases he2 : (N : Int) ≤ bit
  · have HN := Lib.hid (brs_none zs bit pat (.inr (by rw [HL.out]; omega)) 32 (by omega))
    clear hN
    go_enter Tryd.func26, Tryd.ntmps26
    go_wp2_with ((at_builtin; refine wpList_app (by simp [Region.wanted, yielded]) (.tmp 10) (.tmp 11) 22 rfl (v := .slice (some ⟨w.heap.size, 0, none⟩) 0 0) (B := B) (c := cap) (zs := zs) Tryd.underlying22 HI.out HZ0.out HZ1.out HZ2.out rfl rfl HO0.out.1 rfl (hr.out.below (HO0.out.2.mono hB)) HL.out (by simp [maxLen]; omega) (by simp; omega) HO0.out.2.size ?_; intro v2 w2 ho2 hg2 ha2; have HO2 : Hid (OwnInts .u8 5 w2 w.heap.size v2 (brs zs bit pat 0) ∧ Below w.heap.size w w2) := Lib.hid ⟨by rw [List.nil_append] at ho2; exact ho2, HO0.out.2.trans (HO0.out.1.grownBelow hg2 HO0.out.2.size)⟩; clear ho2 hg2 ha2))
    go_ret
    exact ⟨_, rfl, Lib.hid (by rw [HN.out]; exact HO2.out)⟩
  have hed2 : decide ((N : Int) ≤ bit) = false := by simpa using he2
  have HNN := Lib.hid hN
  have hN2 : N ≤ 1125899906849856 := by omega
  clear hN
  go_enter Tryd.func26, Tryd.ntmps26
  go_wp2_with ((at_builtin; refine wpList_app (by simp [Region.wanted, yielded]) (.tmp 10) (.tmp 11) 22 rfl (v := .slice (some ⟨w.heap.size, 0, none⟩) 0 0) (B := B) (c := cap) (zs := zs) Tryd.underlying22 HI.out HZ0.out HZ1.out HZ2.out rfl rfl HO0.out.1 rfl (hr.out.below (HO0.out.2.mono hB)) HL.out (by simp [maxLen]; omega) (by simp; omega) HO0.out.2.size ?_; intro v2 w2 ho2 hg2 ha2; have HO2 : Hid (OwnInts .u8 5 w2 w.heap.size v2 (brs zs bit pat 0) ∧ Below w.heap.size w w2) := Lib.hid ⟨by rw [List.nil_append] at ho2; exact ho2, HO0.out.2.trans (HO0.out.1.grownBelow hg2 HO0.out.2.size)⟩; clear ho2 hg2 ha2))
  clear hed hed2 HO0
  go_loopw [8] (fun i wr => ∃ j : Nat, j ≤ 32 ∧ i = .int .i64 j ∧ Hid (OwnInts .u8 5 wr w.heap.size v2 (brs zs bit pat j) ∧ Below w.heap.size w wr)) (fun i _ => 32 - (intOf i).toNat)
  case atStart => exact ⟨0, by omega, rfl, HO2⟩
  case round =>
    obtain ⟨j, hj, rfl, HO⟩ := hrel
    clear HO2
    by_cases hlt : j < 32
    · have HS : Hid (brs zs bit pat (j + 1) = if hit zs.length bit pat j then flp (brs zs bit pat j) (bit + (j : Int)).toNat else brs zs bit pat j) := Lib.hid rfl
      have HLB : Hid ((brs zs bit pat j).length = n) := Lib.hid (by rw [brs_len, HL.out])
      have HWB := Lib.hid (brs_wf bit pat hw.out j)
      obtain ⟨q, hq⟩ : ∃ q, pat / 2 ^ j = q := ⟨_, rfl⟩
      have hqv : q ≤ pat := by rw [← hq]; exact Nat.div_le_self _ _
      have hqi : (pat : Int) / 2 ^ j = (q : Int) := by rw [← hq]; simp
      have hq1 : bits .and .u32 (q : Int) 1 = ((q % 2 : Nat) : Int) := and_one q (by omega)
      have HQ := Lib.hid hq
      obtain ⟨t, ht⟩ : ∃ t, q % 2 = t := ⟨_, rfl⟩
      rw [ht] at hq1
      have HQT := Lib.hid ht
      have ht2 : t = 0 ∨ t = 1 := by omega
      obtain ⟨K, hK⟩ : ∃ K, IntKind.i64.wrap (bit + (j : Int)) = K := ⟨_, rfl⟩
      have hKv : K = bit + (j : Int) := by rw [IntKind.wrap_i64] at hK; omega
      have HKV := Lib.hid hKv
      clear hq ht hKv
      rcases ht2 with rfl | rfl
      · have HN : Hid (brs zs bit pat (j + 1) = brs zs bit pat j) := Lib.hid (by rw [HS.out, if_neg (fun h => by have := h.1; rw [HQ.out, HQT.out] at this; omega)])
        go_wp2
        go_roundw
        case rel => exact ⟨j + 1, by omega, by go_num, Lib.hid (by rw [HN.out]; exact HO.out)⟩
        case measure => simp [intOf]; omega
      · by_cases hKn : K < 0
        · have HN : Hid (brs zs bit pat (j + 1) = brs zs bit pat j) := Lib.hid (by rw [HS.out, if_neg (fun h => by have := h.2; rw [HL.out] at this; have := HKV.out; omega)])
          have hKd : decide (0 ≤ K) = false := by simpa using hKn
          go_wp2
          go_roundw
          case rel => exact ⟨j + 1, by omega, by go_num, Lib.hid (by rw [HN.out]; exact HO.out)⟩
          case measure => simp [intOf]; omega
        · obtain ⟨kk, rfl⟩ := Int.eq_ofNat_of_zero_le (show 0 ≤ K by omega)
          have hk0 : (0 : Int) ≤ (kk : Int) := by omega
          have hkv : (kk : Int) = bit + (j : Int) := HKV.out
          have HKN : Hid ((bit + (j : Int)).toNat = kk) := Lib.hid (by omega)
          by_cases hdn : (kk : Int) < (N : Int)
          · obtain ⟨d, hd⟩ : ∃ d, kk / 8 = d := ⟨_, rfl⟩
            have hdi : (kk : Int) / 8 = (d : Int) := by omega
            have hkm : kk ≤ 9223372036854775807 := by omega
            have hwd : IntKind.i64.wrap (d : Int) = (d : Int) := IntWalk.i64_in _ ⟨by omega, by omega⟩
            have hd0 : (0 : Int) ≤ (d : Int) := by omega
            have hdnn : d < n := by have := HNN.out; omega
            have HH : Hid (brs zs bit pat (j + 1) = flp (brs zs bit pat j) kk) := Lib.hid (by rw [HS.out, if_pos ⟨by rw [HQ.out, HQT.out], by omega, by rw [HL.out]; have := HNN.out; omega⟩, HKN.out])
            obtain ⟨g, cap', hv2, hgb, _⟩ := own_addr HO.out.1 (by rw [HLB.out]; omega)
            rw [HLB.out] at hv2
            subst hv2
            obtain ⟨b, hb, eb⟩ := byte_at HWB.out (k := d) (by rw [HLB.out]; exact hdnn)
            obtain ⟨c1, f1⟩ := HO.out.1.cell d (by rw [HLB.out]; exact hdnn)
            rw [eb] at c1
            obtain ⟨r, hr'⟩ : ∃ r, kk % 8 = r := ⟨_, rfl⟩
            have hr8 : r < 8 := by omega
            have htm : (kk : Int).tmod 8 = (r : Int) := by rw [Int.tmod_eq_emod_of_nonneg (by omega)]; omega
            have hrm : (kk : Int) % 8 = (r : Int) := by omega
            have hr0 : (0 : Int) ≤ (r : Int) := by omega
            have hwr : IntKind.i64.wrap (r : Int) = (r : Int) := IntWalk.i64_in _ ⟨by omega, by omega⟩
            have hp2 : 2 ^ r ≤ 2 ^ 7 := Nat.pow_le_pow_right (by omega) (by omega)
            obtain ⟨p, hpp⟩ : ∃ p, 2 ^ r = p := ⟨_, rfl⟩
            have hpc : ((2 ^ r : Nat) : Int) = 2 ^ r := by simp
            have HF : Hid (flp (brs zs bit pat j) kk = (brs zs bit pat j).set d ((b ^^^ p : Nat) : Int)) := Lib.hid (by unfold flp; rw [hd, hr', eb, hpp]; rfl)
            rw [hpp] at hp2 hpc
            have hpw : IntKind.u8.wrap (2 ^ r) = (p : Int) := by rw [← hpc]; exact IntWalk.u8_in _ (by omega)
            have hxx := u8_xor_nat b p hb (by omega)
            obtain ⟨x, hx⟩ : ∃ x, b ^^^ p = x := ⟨_, rfl⟩
            rw [hx] at hxx HF
            have HOx := Lib.hid ((show OwnInts .u8 5 wr.drew _ _ _ from HO.out.1).stored HLB.out d (x : Int))
            have HBx : Hid (Below w.heap.size w (wr.drew.setCell ⟨g, d, none⟩ (.int .u8 (x : Int)))) := Lib.hid (HO.out.2.drew.setCell hgb _)
            rw [← HF.out, ← HH.out] at HOx
            have hf2 : wr.drew.frozen? ⟨g, d, none⟩ = false := f1
            have hc2 := (show wr.drew.cell? ⟨g, d, none⟩ = _ from c1)
            clear f1 hd hr' hpp hpc hx eb hkv
            go_wp2
            go_still_tail 12, (by kernel_rfl)
            repeat still_step
            try refine wpStill_nil ?_
            change wpList _ _ _ _ _ wr.drew
            generalize wr.drew = wd at *
            clear c1 HO hxx
            go_wp2
            go_roundw
            case rel => exact ⟨j + 1, by omega, by go_num, Lib.hid ⟨HOx.out, HBx.out⟩⟩
            case measure => simp [intOf]; omega
          · have HN : Hid (brs zs bit pat (j + 1) = brs zs bit pat j) := Lib.hid (by rw [HS.out, if_neg (fun h => by have := h.2; rw [HL.out] at this; have := HNN.out; omega)])
            have hdd : decide ((kk : Int) < (N : Int)) = false := by simp; omega
            go_wp2
            go_roundw
            case rel => exact ⟨j + 1, by omega, by go_num, Lib.hid (by rw [HN.out]; exact HO.out)⟩
            case measure => simp [intOf]; omega
    · have h32 : j = 32 := by omega
      rw [h32] at HO
      have hji : (j : Int) = 32 := by omega
      rw [hji]
      clear hj hlt h32 hji
      go_wp2
      go_ret
      exact ⟨_, rfl, HO⟩
end Go.Proofs.YtehojhgpgliemaaDoor.Base
