/-
  CONTRACT: crc.Burst.
-/
import Derived.Test.YtopnkhalmembhaaDoorCrcOwn
import Derived.Test.YtopnkhalmembhaaDoorMulMath
import Derived.Test.YtopnkhalmembhaaDoorLinMath
import Derived.StillTailTactics
import Derived.RegionTactic
import Derived.Laws.CopyOwn
import Derived.BigQuiet
set_option linter.unusedVariables false
set_option linter.unusedSimpArgs false
namespace Go.Proofs.YtopnkhalmembhaaDoor.CrcMath
/-- round j strikes bit bit + j. -/
def hit (n : Nat) (bit : Int) (pat j : Nat) : Prop := pat / 2 ^ j % 2 = 1 ∧ 0 ≤ bit + (j : Int) ∧ bit + (j : Int) < 8 * (n : Int)
instance (n : Nat) (bit : Int) (pat j : Nat) : Decidable (hit n bit pat j) := by unfold hit; infer_instance
def flp (zs : List Int) (k : Nat) : List Int := zs.set (k / 8) (((zs.getD (k / 8) 0).toNat ^^^ 2 ^ (k % 8) : Nat) : Int)
def brs (zs : List Int) (bit : Int) (pat : Nat) : Nat → List Int
  | 0 => zs
  | j + 1 => if hit zs.length bit pat j then flp (brs zs bit pat j) (bit + (j : Int)).toNat else brs zs bit pat j
theorem flp_len (zs : List Int) (k : Nat) : (flp zs k).length = zs.length := by unfold flp; rw [List.length_set]
theorem brs_len (zs : List Int) (bit : Int) (pat j : Nat) : (brs zs bit pat j).length = zs.length := by
  induction j with
  | zero => rfl
  | succ j ih => unfold brs; split <;> simp [flp_len, ih]
end Go.Proofs.YtopnkhalmembhaaDoor.CrcMath
namespace Go.Proofs.YtopnkhalmembhaaDoor.Base
open Go.ChangeShapes Go.WideShapes Go.ChangeAt Go.RowKit Go.Proofs.YtopnkhalmembhaaDoor.CrcMath Go.Proofs.YtopnkhalmembhaaDoor.Law Go.Proofs.YtopnkhalmembhaaDoor.Args Go.Proofs.YtopnkhalmembhaaDoor.Own
theorem own_row {k : IntKind} {e : TypeId} {w : World} {base g n : Nat} {zs : List Int} (h : OwnInts k e w base (.slice (some ⟨g, 0, none⟩) n n) zs) (hl : zs.length = n) : w.heap[g]? = some (.cells (zs.map (Value.int k)).toArray e (0, 0)) ∧ base ≤ g ∧ n ≤ maxLen := by
  rcases h.2 with ⟨h', _⟩ | ⟨g', cap', cur, h', hb, hg, hnc, hcm, hcs, ht⟩
  · cases h'
  · simp only [Value.slice.injEq, Option.some.injEq, Addr.mk.injEq, and_true] at h'
    obtain ⟨rfl, _, rfl⟩ := h'
    refine ⟨?_, hb, hcm⟩
    have h1 : cur.toList = zs.map (Value.int k) := by
      rw [← ht, List.take_of_length_le (by rw [Array.length_toList, hcs]; omega)]
    rw [hg, ← h1]
theorem row_own {k : IntKind} {e : TypeId} {w : World} {base g n : Nat} {zs : List Int} (hg : w.heap[g]? = some (.cells (zs.map (Value.int k)).toArray e (0, 0))) (hb : base ≤ g) (hm : n ≤ maxLen) (hl : zs.length = n) : OwnInts k e w base (.slice (some ⟨g, 0, none⟩) n n) zs := by
  subst hl
  exact ⟨by simp, .inr ⟨g, zs.length, _, rfl, hb, hg, Nat.le_refl _, hm, by simp, by simp [List.take_of_length_le]⟩⟩
theorem brs_wf {zs : List Int} (bit : Int) (pat : Nat) (h : ∀ z ∈ zs, (Lit.int .u8 z).wf = true) (j : Nat) : ∀ z ∈ brs zs bit pat j, (Lit.int .u8 z).wf = true := by
  induction j with
  | zero => exact h
  | succ j ih =>
    unfold brs
    split
    · intro z hz
      unfold flp at hz
      rcases List.mem_or_eq_of_mem_set hz with h1 | rfl
      · exact ih z h1
      · have h2 : 2 ^ ((bit + (j : Int)).toNat % 8) ≤ 2 ^ 7 := Nat.pow_le_pow_right (by omega) (by omega)
        exact byte_wf (xor_lt 8 (getD_small ih _) (by omega))
    · exact ih
theorem and_one (y : Nat) (h : y < 4294967296) : bits .and .u32 (y : Int) 1 = ((y % 2 : Nat) : Int) := by
  rw [show (1 : Int) = ((1 : Nat) : Int) from rfl, u32_and_nat _ _ h (by omega)]
  congr 1
  rw [Nat.and_one_is_mod]
set_option maxRecDepth 100000 in
theorem burst_any (A : Option Addr) (n cap B : Nat) (zs : List Int) (bit : Int) (pat : Nat) (w : World) (hl : zs.length = n) (hn : n ≤ 9223372036854775) (hr : Hid (IntsAt .u8 w B A zs)) (hB : B ≤ w.heap.size) (hw : Hid (∀ z ∈ zs, (Lit.int .u8 z).wf = true)) (hp : pat < 4294967296) (hb1 : -9223372036854775808 ≤ bit) (hb2 : bit ≤ 9223372036854775807) (hn2 : n ≤ 140737488351232) :
    Calls Tryd.prog 9 #[.slice A n cap, .int .i64 bit, .int .u32 (pat : Int)] w fun e w' => ∃ v, e = .returned v ∧ Hid (OwnInts .u8 5 w' w.heap.size v (brs zs bit pat 32) ∧ Below w.heap.size w w') := by
  have HL := Lib.hid hl
  obtain ⟨i0, hi, hz0, hz1, hz2⟩ := info_parts info8
  have HI := Lib.hid hi
  have HZ0 := Lib.hid hz0
  have HZ1 := Lib.hid hz1
  have HZ2 := Lib.hid hz2
  clear hl hi hz0 hz1 hz2
  go_enter Tryd.func9, Tryd.ntmps9
  obtain ⟨cs, hcs⟩ : ∃ cs, zs.map (Value.int .u8) = cs := ⟨_, rfl⟩
  obtain ⟨c0, hc0⟩ : ∃ c0, (List.replicate n (0 : Int)).map (Value.int .u8) = c0 := ⟨_, rfl⟩
  have HCS := Lib.hid hcs
  have HC0 := Lib.hid hc0
  have LCS : Hid (cs.length = n) := Lib.hid (by rw [← hcs, List.length_map, HL.out])
  have LC0 : Hid (c0.length = n) := Lib.hid (by rw [← hc0]; simp)
  have HCP : Hid (∀ w2, Below w.heap.size w w2 → 0 < cs.length → ∃ ad, A = some ad ∧ ∀ j v, cs[j]? = some v → w2.cell? (ad.add j) = some v) := Lib.hid (by
    intro w2 hb hpos
    rw [LCS.out] at hpos
    obtain ⟨ad, hA, _, _⟩ := hr.out 0 (by rw [HL.out]; exact hpos)
    refine ⟨ad, hA, fun j v hj => ?_⟩
    rw [← hcs, List.getElem?_map] at hj
    rcases Nat.lt_or_ge j zs.length with h | h
    · obtain ⟨ad', hA', had, hc⟩ := hr.out j h
      rw [hA] at hA'
      injection hA' with hA'
      subst hA'
      rw [(hb.cell (p := ad.add j) (by rw [add_block]; omega)), hc, getD_at h]
      simpa [h] using hj
    · rw [List.getElem?_eq_none h] at hj; cases hj)
  have H1C : Hid (∀ v ∈ cs, v.oneCell' = true) := Lib.hid (by
    intro v hv
    rw [← hcs] at hv
    obtain ⟨z, _, rfl⟩ := List.mem_map.1 hv
    rfl)
  have HSZ : Hid ((Tryd.prog.info? 5).map (·.size) = some 1) := Lib.hid (by rw [HI.out]; exact congrArg some HZ1.out)
  clear hcs hc0
  obtain ⟨cs, hcs⟩ : ∃ cs, zs.map (Value.int .u8) = cs := ⟨_, rfl⟩
  obtain ⟨c0, hc0⟩ : ∃ c0, (List.replicate n (0 : Int)).map (Value.int .u8) = c0 := ⟨_, rfl⟩
  have HCS := Lib.hid hcs
  have HC0 := Lib.hid hc0
  have LCS : Hid (cs.length = n) := Lib.hid (by rw [← hcs, List.length_map, HL.out])
  have LC0 : Hid (c0.length = n) := Lib.hid (by rw [← hc0]; simp)
  have HCP : Hid (∀ w2, Below w.heap.size w w2 → 0 < cs.length → ∃ ad, A = some ad ∧ ∀ j v, cs[j]? = some v → w2.cell? (ad.add j) = some v) := Lib.hid (by
    intro w2 hb hpos
    rw [LCS.out] at hpos
    obtain ⟨ad, hA, _, _⟩ := hr.out 0 (by rw [HL.out]; exact hpos)
    refine ⟨ad, hA, fun j v hj => ?_⟩
    rw [← hcs, List.getElem?_map] at hj
    rcases Nat.lt_or_ge j zs.length with h | h
    · obtain ⟨ad', hA', had, hc⟩ := hr.out j h
      rw [hA] at hA'
      injection hA' with hA'
      subst hA'
      rw [(hb.cell (p := ad.add j) (by rw [add_block]; omega)), hc, getD_at h]
      simpa [h] using hj
    · rw [List.getElem?_eq_none h] at hj; cases hj)
  have H1C : Hid (∀ v ∈ cs, v.oneCell' = true) := Lib.hid (by
    intro v hv
    rw [← hcs] at hv
    obtain ⟨z, _, rfl⟩ := List.mem_map.1 hv
    rfl)
  have HSZ : Hid ((Tryd.prog.info? 5).map (·.size) = some 1) := Lib.hid (by rw [HI.out]; exact congrArg some HZ1.out)
  clear hcs hc0
  go_wp2_with (first
    | (at_make; refine wpList_make_full _ rfl _ _ 32 rfl w.heap.size 5 i0 (.int .u8 0) 1 Tryd.underlying32 HI.out HZ0.out HZ1.out .i64 .i64 (n : Int) (n : Int) n rfl rfl rfl rfl (by rw [HZ2.out]; omega) (by simp [maxLen]; omega) (Nat.le_refl _) ?_; intro w1 ho1 hg1; have HO0 : Hid (OwnInts .u8 5 w1 w.heap.size (.slice (some ⟨w.heap.size, 0, none⟩) n n) (List.replicate n 0) ∧ Below w.heap.size w w1) := Lib.hid ⟨OwnInts.made ho1, (Below.refl _ _).grown hg1 (Nat.le_refl _) (fun k hk => by cases hk)⟩; have HR0 : Hid (w1.heap[w.heap.size]? = some (.cells c0.toArray 5 (0, 0))) := Lib.hid (by rw [← HC0.out]; exact (own_row HO0.out.1 (by simp)).1); clear ho1 hg1)
    | ((with_reducible show wpList _ _ _ _ _ _); refine wpList_copy_splice rfl (.tmp 13) (.tmp 14) 32 32 rfl 5 Tryd.underlying32 HSZ.out (some ⟨w.heap.size, 0, none⟩) A n n n cap rfl rfl w.heap.size 0 c0 5 HR0.out cs (by rw [LCS.out]; simp) (fun h => ⟨rfl, HCP.out _ HO0.out.2 h⟩) (by rw [LCS.out, LC0.out]; omega) H1C.out w.heap.size w HO0.out.2 (Nat.le_refl _) ?_; intro w2 hg2 hb2))
  have HO2 : Hid (OwnInts .u8 5 w2 w.heap.size (.slice (some ⟨w.heap.size, 0, none⟩) n n) (brs zs bit pat 0) ∧ Below w.heap.size w w2) := Lib.hid ⟨row_own (by
      have h := hg2.out
      have e : splice c0 0 cs = cs := by
        unfold splice
        rw [List.take_zero, List.nil_append, List.drop_of_length_le (by rw [LC0.out, LCS.out]; omega), List.append_nil]
      rw [e, ← HCS.out] at h
      exact h) (Nat.le_refl _) (by simp [maxLen]; omega) HL.out, hb2⟩
  clear hg2 hb2 HR0 HO0
  go_loopw [16] (fun i wr => ∃ j : Nat, j ≤ 32 ∧ i = .int .i64 j ∧ Hid (OwnInts .u8 5 wr w.heap.size (.slice (some ⟨w.heap.size, 0, none⟩) n n) (brs zs bit pat j) ∧ Below w.heap.size w wr)) (fun i _ => 32 - (intOf i).toNat)
  case atStart => exact ⟨0, by omega, rfl, HO2⟩
  case round =>
    obtain ⟨j, hj, rfl, HO⟩ := hrel
    clear HO2
    by_cases hlt : j < 32
    · have HS : Hid (brs zs bit pat (j + 1) = if hit zs.length bit pat j then flp (brs zs bit pat j) (bit + (j : Int)).toNat else brs zs bit pat j) := Lib.hid rfl
      have HLB : Hid ((brs zs bit pat j).length = n) := Lib.hid (by rw [brs_len, HL.out])
      have HWB := Lib.hid (brs_wf bit pat hw.out j)
      obtain ⟨q, hq⟩ : ∃ q, pat / 2 ^ j = q := ⟨_, rfl⟩
      have hqv : q ≤ pat := by rw [← hq]; exact Nat.div_le_self _ _
      have hqi : (pat : Int) / 2 ^ j = (q : Int) := by rw [← hq]; simp
      have hq1 : bits .and .u32 (q : Int) 1 = ((q % 2 : Nat) : Int) := and_one q (by omega)
      have HQ := Lib.hid hq
      obtain ⟨t, ht⟩ : ∃ t, q % 2 = t := ⟨_, rfl⟩
      rw [ht] at hq1
      have HQT := Lib.hid ht
      have ht2 : t = 0 ∨ t = 1 := by omega
      obtain ⟨K, hK⟩ : ∃ K, IntKind.i64.wrap (bit + (j : Int)) = K := ⟨_, rfl⟩
      have hKv : K = bit + (j : Int) ∨ (K < 0 ∧ 9223372036854775808 ≤ bit + (j : Int)) := by rw [IntKind.wrap_i64] at hK; omega
      have hKm : K ≤ 9223372036854775807 := by rw [IntKind.wrap_i64] at hK; omega
      have HKV := Lib.hid hKv
      clear hq ht hKv
      rcases ht2 with rfl | rfl
      · have HN : Hid (brs zs bit pat (j + 1) = brs zs bit pat j) := Lib.hid (by rw [HS.out, if_neg (fun h => by have := h.1; rw [HQ.out, HQT.out] at this; omega)])
        go_wp2
        go_roundw
        case rel => exact ⟨j + 1, by omega, by go_num, Lib.hid (by rw [HN.out]; exact HO.out)⟩
        case measure => simp [intOf]; omega
      · by_cases hKn : K < 0
        · have HN : Hid (brs zs bit pat (j + 1) = brs zs bit pat j) := Lib.hid (by rw [HS.out, if_neg (fun h => by have := h.2; rw [HL.out] at this; have := HKV.out; omega)])
          have hKd : decide (0 ≤ K) = false := by simpa using hKn
          go_wp2
          go_roundw
          case rel => exact ⟨j + 1, by omega, by go_num, Lib.hid (by rw [HN.out]; exact HO.out)⟩
          case measure => simp [intOf]; omega
        · obtain ⟨kk, rfl⟩ := Int.eq_ofNat_of_zero_le (show 0 ≤ K by omega)
          have hk0 : (0 : Int) ≤ (kk : Int) := by omega
          have hkv : (kk : Int) = bit + (j : Int) := by have := HKV.out; omega
          have HKN : Hid ((bit + (j : Int)).toNat = kk) := Lib.hid (by omega)
          obtain ⟨d, hd⟩ : ∃ d, kk / 8 = d := ⟨_, rfl⟩
          have hdi : (kk : Int) / 8 = (d : Int) := by omega
          have hkm : kk ≤ 9223372036854775807 := by omega
          have hwd : IntKind.i64.wrap (d : Int) = (d : Int) := IntWalk.i64_in _ ⟨by omega, by omega⟩
          have hd0 : (0 : Int) ≤ (d : Int) := by omega
          by_cases hdn : d < n
          · have HH : Hid (brs zs bit pat (j + 1) = flp (brs zs bit pat j) kk) := Lib.hid (by rw [HS.out, if_pos ⟨by rw [HQ.out, HQT.out], by omega, by rw [HL.out]; omega⟩, HKN.out])
            obtain ⟨b, hb, eb⟩ := byte_at HWB.out (k := d) (by rw [HLB.out]; exact hdn)
            obtain ⟨c1, f1⟩ := HO.out.1.cell d (by rw [HLB.out]; exact hdn)
            rw [eb] at c1
            obtain ⟨r, hr'⟩ : ∃ r, kk % 8 = r := ⟨_, rfl⟩
            have hr8 : r < 8 := by omega
            have htm : (kk : Int).tmod 8 = (r : Int) := by rw [Int.tmod_eq_emod_of_nonneg (by omega)]; omega
            have hrm : (kk : Int) % 8 = (r : Int) := by omega
            have hr0 : (0 : Int) ≤ (r : Int) := by omega
            have hwr : IntKind.i64.wrap (r : Int) = (r : Int) := IntWalk.i64_in _ ⟨by omega, by omega⟩
            have hp2 : 2 ^ r ≤ 2 ^ 7 := Nat.pow_le_pow_right (by omega) (by omega)
            obtain ⟨p, hpp⟩ : ∃ p, 2 ^ r = p := ⟨_, rfl⟩
            have hpc : ((2 ^ r : Nat) : Int) = 2 ^ r := by simp
            have HF : Hid (flp (brs zs bit pat j) kk = (brs zs bit pat j).set d ((b ^^^ p : Nat) : Int)) := Lib.hid (by unfold flp; rw [hd, hr', eb, hpp]; rfl)
            rw [hpp] at hp2 hpc
            have hpw : IntKind.u8.wrap (2 ^ r) = (p : Int) := by rw [← hpc]; exact IntWalk.u8_in _ (by omega)
            have hxx := u8_xor_nat b p hb (by omega)
            obtain ⟨x, hx⟩ : ∃ x, b ^^^ p = x := ⟨_, rfl⟩
            rw [hx] at hxx HF
            have HOx := Lib.hid ((show OwnInts .u8 5 wr.drew _ _ _ from HO.out.1).stored HLB.out d (x : Int))
            have HBx : Hid (Below w.heap.size w (wr.drew.setCell ⟨w.heap.size, d, none⟩ (.int .u8 (x : Int)))) := Lib.hid (HO.out.2.drew.setCell (Nat.le_refl _) _)
            rw [← HF.out, ← HH.out] at HOx
            have hf2 : wr.drew.frozen? ⟨w.heap.size, d, none⟩ = false := f1
            have hc2 := (show wr.drew.cell? ⟨w.heap.size, d, none⟩ = _ from c1)
            clear f1 hd hr' hpp hpc hx eb hkv
            go_wp2
            go_still_tail 10, (by kernel_rfl)
            repeat still_step
            try refine wpStill_nil ?_
            change wpList _ _ _ _ _ wr.drew
            generalize wr.drew = wd at *
            clear c1 HO hxx
            go_wp2
            go_roundw
            case rel => exact ⟨j + 1, by omega, by go_num, Lib.hid ⟨HOx.out, HBx.out⟩⟩
            case measure => simp [intOf]; omega
          · have HN : Hid (brs zs bit pat (j + 1) = brs zs bit pat j) := Lib.hid (by rw [HS.out, if_neg (fun h => by have := h.2; rw [HL.out] at this; omega)])
            have hdd : decide ((d : Int) < (n : Int)) = false := by simp; omega
            clear hd
            go_wp2
            go_roundw
            case rel => exact ⟨j + 1, by omega, by go_num, Lib.hid (by rw [HN.out]; exact HO.out)⟩
            case measure => simp [intOf]; omega
    · have h32 : j = 32 := by omega
      rw [h32] at HO
      have hji : (j : Int) = 32 := by omega
      rw [hji]
      clear hj hlt h32 hji
      go_wp2
      go_ret
      exact ⟨_, rfl, HO⟩
end Go.Proofs.YtopnkhalmembhaaDoor.Base
