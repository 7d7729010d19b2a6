/-
  CONTRACTS: the reference's apply and Combine.
-/
import Derived.Test.YtehojhgpgliemaaDoorCrcMul
import Derived.Test.YtehojhgpgliemaaDoorCrcOwn
import Derived.Test.YtehojhgpgliemaaDoorCrcWords
namespace Go.Proofs.YtehojhgpgliemaaDoor.CrcMath
/-- The table of the map Tn j, its first n rows. -/
def tabOf (j n : Nat) : List Int := (List.range n).map fun i => ((Tn j (2 ^ i) : Nat) : Int)
theorem tab_len (j n : Nat) : (tabOf j n).length = n := by simp [tabOf]
theorem tab_at (j n i : Nat) (h : i < n) : (tabOf j n).getD i 0 = ((Tn j (2 ^ i) : Nat) : Int) := by simp [tabOf, List.getD, h]
theorem tab_zero (j : Nat) : tabOf j 0 = [] := rfl
theorem tab_succ (j k : Nat) : tabOf j (k + 1) = tabOf j k ++ [((Tn j (2 ^ k) : Nat) : Int)] := by
  unfold tabOf; rw [List.range_succ, List.map_append]; rfl
theorem ap_step (j v i : Nat) : Tn j (v % 2 ^ (i + 1)) = if v / 2 ^ i % 2 = 1 then Tn j (v % 2 ^ i) ^^^ Tn j (2 ^ i) else Tn j (v % 2 ^ i) := by
  have e : v % 2 ^ (i + 1) = v % 2 ^ i + 2 ^ i * (v / 2 ^ i % 2) := Nat.mod_pow_succ
  by_cases h : v / 2 ^ i % 2 = 1
  · rw [if_pos h, e, h, ← Tn_xor]
    congr 1
    have := split_xor (v % 2 ^ i) 1 i (Nat.mod_lt _ (Nat.two_pow_pos i))
    rw [Nat.one_mul] at this
    rw [Nat.mul_one]; exact this
  · rw [if_neg h, e, show v / 2 ^ i % 2 = 0 by omega, Nat.mul_zero, Nat.add_zero]
theorem ap_zero (j v : Nat) : Tn j (v % 2 ^ 0) = 0 := by rw [Nat.pow_zero, Nat.mod_one, Tn_zero]
theorem ap_full (j v : Nat) (h : v < 4294967296) : Tn j (v % 2 ^ 32) = Tn j v := by rw [Nat.mod_eq_of_lt (by simpa using h)]
theorem upd_zero (r : Nat) : upd r [0] = Tn 8 r := by
  show sb r (0 : Int).toNat = _
  unfold sb; simp
theorem Tn_double (j r : Nat) : Tn j (Tn j r) = Tn (2 * j) r := by rw [← Tn_add, Nat.two_mul]
end Go.Proofs.YtehojhgpgliemaaDoor.CrcMath
namespace Go.Proofs.YtehojhgpgliemaaDoor.Base
open Go.ChangeShapes Go.WideShapes Go.ChangeAt Go.RowKit Go.Proofs.YtehojhgpgliemaaDoor.CrcMath Go.Proofs.YtehojhgpgliemaaDoor.Law Go.Proofs.YtehojhgpgliemaaDoor.Args Go.Proofs.YtehojhgpgliemaaDoor.Own
theorem apply_any (A : Option Addr) (c B j v : Nat) (w : World) (hv : v < 4294967296) (hr : Hid (IntsAt .u32 w B A (tabOf j 32))) :
    Calls Tryd.prog 30 #[.slice A 32 c, .int .u32 (v : Int)] w fun e w' => e = .returned (.int .u32 ((Tn j v : Nat) : Int)) ∧ w = w' := by
  go_enter Tryd.func30, Tryd.ntmps30
  go_wp2
  go_loop [5, 6] (fun o i => ∃ k : Nat, k ≤ 32 ∧ i = .int .i64 k ∧ o = .int .u32 ((Tn j (v % 2 ^ k) : Nat) : Int)) (fun _ i => 32 - (intOf i).toNat)
  case atStart => exact ⟨0, by omega, rfl, val_int (by rw [ap_zero]; rfl)⟩
  case round =>
    obtain ⟨k, hk, rfl, rfl⟩ := hrel
    by_cases hlt : k < 32
    · have hkl : k < (tabOf j 32).length := by rw [tab_len]; exact hlt
      obtain ⟨ad, rfl, _, hcell⟩ := hr.out k hkl
      rw [tab_at _ _ _ hlt] at hcell
      have HS := Lib.hid (ap_step j v k)
      have hxl : Tn j (v % 2 ^ k) < 4294967296 := Tn_lt j (Nat.lt_of_le_of_lt (Nat.mod_le _ _) hv)
      have hp2 : 2 ^ k ≤ 2 ^ 31 := Nat.pow_le_pow_right (by omega) (by omega)
      have hyl : Tn j (2 ^ k) < 4294967296 := Tn_lt j (by omega)
      obtain ⟨x, hx⟩ : ∃ x, Tn j (v % 2 ^ k) = x := ⟨_, rfl⟩
      obtain ⟨y, hy⟩ : ∃ y, Tn j (2 ^ k) = y := ⟨_, rfl⟩
      rw [hx] at hxl HS
      rw [hy] at hyl HS hcell
      rw [hx]
      have hxy : bits .xor .u32 (x : Int) (y : Int) = ((x ^^^ y : Nat) : Int) := u32_xor_nat _ _ (by omega) (by omega)
      obtain ⟨q, hq⟩ : ∃ q, v / 2 ^ k = q := ⟨_, rfl⟩
      have hqv : q ≤ v := by rw [← hq]; exact Nat.div_le_self _ _
      have hqi : (v : Int) / 2 ^ k = (q : Int) := by rw [← hq]; simp
      rw [hq] at HS
      have hq1 : bits .and .u32 (q : Int) 1 = ((q % 2 : Nat) : Int) := and_one32 q (by omega)
      obtain ⟨t, ht⟩ : ∃ t, q % 2 = t := ⟨_, rfl⟩
      rw [ht] at HS hq1
      have ht2 : t = 0 ∨ t = 1 := by omega
      clear hx hy hkl hp2 ht hq
      rcases ht2 with rfl | rfl
      · go_wp2
        go_round
        case rel => exact ⟨k + 1, by omega, by go_num, val_int (by rw [HS.out, if_neg (by omega)])⟩
        case measure => simp [intOf]; omega
      · go_wp2
        go_round
        case rel => exact ⟨k + 1, by omega, by go_num, val_int (by rw [HS.out, if_pos rfl])⟩
        case measure => simp [intOf]; omega
    · have h32 : k = 32 := by omega
      subst h32
      have HF := Lib.hid (ap_full j v hv)
      go_wp2
      go_ret
      exact ⟨ret_int (by rw [HF.out]), rfl⟩
theorem own_mono {k : IntKind} {e : TypeId} {w : World} {b b' : Nat} {v : Value} {zs : List Int} (h : OwnInts k e w b v zs) (hb : b' ≤ b) : OwnInts k e w b' v zs := by
  refine ⟨h.1, ?_⟩
  rcases h.2 with hn | ⟨g, cap, cur, rfl, hbg, rest⟩
  · exact .inl hn
  · exact .inr ⟨g, cap, cur, rfl, by omega, rest⟩
theorem info32 : (Tryd.prog.info? 25).map (fun i => (i.zero, i.size, i.bytes)) = some (some (.int .u32 0), 1, 4) := by kernel_rfl
theorem rcombine_any (a b : Nat) (n : Int) (w : World) (ha : a < 4294967296) (hb : b < 4294967296) (hn : n ≤ 9223372036854775807) (hn2 : -9223372036854775808 ≤ n) :
    Calls Tryd.prog 24 #[.int .u32 (a : Int), .int .u32 (b : Int), .int .i64 n] w fun e w' => e = .returned (.int .u32 ((comb a b n.toNat : Nat) : Int)) ∧ Below w.heap.size w w' := by
  obtain ⟨i0, hi, hz0, hz1, hz2⟩ := info_parts info32
  have HI := Lib.hid hi
  have HZ0 := Lib.hid hz0
  have HZ1 := Lib.hid hz1
  have HZ2 := Lib.hid hz2
  clear hi hz0 hz1 hz2
  go_enter Tryd.func24, Tryd.ntmps24
  go_wp2
  have HO0 : Hid (OwnInts .u32 25 (w.alloc (.cells #[] 25)) w.heap.size (.slice (some ⟨w.heap.size, 0, none⟩) 0 0) (tabOf 8 0) ∧ Below w.heap.size w (w.alloc (.cells #[] 25))) := Lib.hid ⟨OwnInts.empty _ _ w (Nat.le_refl _), (Below.refl _ _).alloc (Nat.le_refl _) _⟩
  go_loopw [7, 8] (fun v i wr => ∃ k : Nat, k ≤ 32 ∧ i = .int .i64 k ∧ Hid (OwnInts .u32 25 wr w.heap.size v (tabOf 8 k) ∧ Below w.heap.size w wr)) (fun _ i _ => 32 - (intOf i).toNat)
  case atStart => exact ⟨0, by omega, rfl, HO0⟩
  case round =>
    obtain ⟨k, hk, rfl, HO⟩ := hrel
    by_cases hlt : k < 32
    · have hp2 : 2 ^ k ≤ 2 ^ 31 := Nat.pow_le_pow_right (by omega) (by omega)
      obtain ⟨p, hp⟩ : ∃ p, 2 ^ k = p := ⟨_, rfl⟩
      have hpc : ((2 ^ k : Nat) : Int) = 2 ^ k := by simp
      rw [hp] at hp2 hpc
      have hpw : IntKind.u32.wrap (2 ^ k) = (p : Int) := by rw [← hpc]; exact IntWalk.u32_in _ (by omega)
      have HS : Hid (tabOf 8 k ++ [((Tn 8 p : Nat) : Int)] = tabOf 8 (k + 1)) := Lib.hid (by rw [tab_succ, hp])
      have HU := Lib.hid (upd_zero p)
      have HTL := Lib.hid (tab_len 8 k)
      have HR := Lib.hid (register_any p (some ⟨wr.heap.size, 0, none⟩) 1 1 (wr.heap.size + 1) [0] (wr.alloc (.cells #[.int .u8 0] 5)) (by omega) rfl (by omega) (Lib.hid (IntsAt.new .u8 wr 5 (0, 0) [0])) (Lib.hid (by intro z hz; cases hz with | head => rfl | tail _ h => cases h)))
      rw [HU.out] at HR
      have hxl : Tn 8 p < 4294967296 := Tn_lt 8 (by omega)
      obtain ⟨x, hx⟩ : ∃ x, Tn 8 p = x := ⟨_, rfl⟩
      rw [hx] at HR HS
      clear hp hpc hx hxl HU
      go_wp2_with (first
        | (go_at_call 27; refine (HR.out).mono ?_; rintro e wg ⟨rfl, m1, hwg⟩; have HG : Hid (OwnInts .u32 25 wg w.heap.size u7 (tabOf 8 k) ∧ Below w.heap.size w wg) := Lib.hid (by rw [hwg]; exact ⟨(HO.out.1.alloc _).drewN m1, below_draws (HO.out.2.alloc HO.out.2.size _) m1⟩); clear hwg)
        | (at_builtin; refine wpList_app (by simp [Region.wanted, yielded]) (.tmp 16) (.tmp 21) 44 rfl (v := u7) (B := wg.heap.size + 1) (c := 1) (A := some ⟨wg.heap.size, 0, none⟩) (zs := [(x : Int)]) Tryd.underlying44 HI.out HZ0.out HZ1.out HZ2.out rfl rfl (HG.out.1.alloc _) rfl (IntsAt.new .u32 wg 25 (0, 0) [(x : Int)]) rfl (by rw [HTL.out]; simp [maxLen]; omega) (by rw [HTL.out]; omega) (Nat.le_trans HG.out.2.size (by simp)) ?_; intro v2 w2 ho2 hg2 ha2; have hb2 := HG.out.2.trans (((Below.refl w.heap.size wg).alloc HG.out.2.size _).trans ((HG.out.1.alloc _).grownBelow hg2 (Nat.le_trans HG.out.2.size (by simp)))); rw [HS.out] at ho2; have HQ := Lib.hid (And.intro ho2 hb2); clear ho2 hg2 ha2 hb2))
      go_roundw
      case rel => exact ⟨k + 1, by omega, by go_num, HQ⟩
      case measure => simp [intOf]; omega
    · have h32 : k = 32 := by omega
      have hki : (k : Int) = 32 := by omega
      rw [hki]
      rw [h32] at HO
      clear hki hk hlt h32
      have HO1 : Hid (OwnInts .u32 25 wr w.heap.size u7 (tabOf (8 * 1) 32) ∧ Below w.heap.size w wr) := HO
      clear HO HO0
      go_wp2
      go_loopw [0, 2, 7] (fun x z v wr => ∃ (X : Nat) (Z : Int) (e : Nat), x = .int .u32 (X : Int) ∧ z = .int .i64 Z ∧ X < 4294967296 ∧ Z ≤ 9223372036854775807 ∧ Hid (Tn (8 * e * Z.toNat) X = Tn (8 * n.toNat) a ∧ OwnInts .u32 25 wr w.heap.size v (tabOf (8 * e) 32) ∧ Below w.heap.size w wr)) (fun _ z _ _ => (intOf z).toNat)
      case atStart => exact ⟨a, n, 1, rfl, rfl, ha, hn, Lib.hid ⟨rfl, HO1.out.1, HO1.out.2⟩⟩
      case round =>
        obtain ⟨X, Z, e, rfl, rfl, hX, hZ, HO⟩ := hrel
        by_cases hz : 0 < Z
        · obtain ⟨N, rfl⟩ := Int.eq_ofNat_of_zero_le (show 0 ≤ Z by omega)
          obtain ⟨A, c, ev, _, _, _, hi⟩ := HO.out.2.1.form
          rw [tab_len] at ev
          have HV := Lib.hid hi
          clear hi
          subst ev
          obtain ⟨H, hH⟩ : ∃ H, N / 2 = H := ⟨_, rfl⟩
          have hHi : (N : Int) / 2 = (H : Int) := by omega
          have hHw : IntKind.i64.wrap (H : Int) = (H : Int) := IntWalk.i64_in _ ⟨by omega, by omega⟩
          obtain ⟨t, ht⟩ : ∃ t, N % 2 = t := ⟨_, rfl⟩
          have htm : (N : Int).tmod 2 = (t : Int) := by rw [Int.tmod_eq_emod_of_nonneg (by omega)]; omega
          obtain ⟨wo, hwo⟩ : ∃ wo, wo = wr := ⟨_, rfl⟩
          subst hwo
          have HAP := Lib.hid (fun w hb x hx => apply_any A c wo.heap.size (8 * e) x w hx (Lib.hid (HV.out.below hb)))
          have HA1 := Lib.hid (HAP.out wo (Below.refl _ _) X hX)
          have ht2 : t = 0 ∨ t = 1 := by omega
          rcases ht2 with ht2 | ht2
          · have HY : Hid (Tn (8 * (2 * e) * (H : Int).toNat) X = Tn (8 * n.toNat) a) := Lib.hid (by
              rw [← HO.out.1]; congr 1
              have e1 : N = 2 * H := by omega
              rw [e1, Int.toNat_natCast, Int.toNat_natCast]; simp only [Nat.mul_assoc, Nat.mul_left_comm])
            have HYL := Lib.hid hX
            have htm0 : (N : Int).tmod 2 = 0 := by rw [htm, ht2]; rfl
            have hdz : decide (0 < N) = true := by simp; omega
            have hdz2 : 0 < N := by omega
            clear htm ht ht2 hH
            go_wp2
            have HO3 : Hid (OwnInts .u32 25 (wo.alloc (.cells #[] 25)) wo.heap.size (.slice (some ⟨wo.heap.size, 0, none⟩) 0 0) (tabOf (8 * (2 * e)) 0) ∧ Below wo.heap.size wo (wo.alloc (.cells #[] 25))) := Lib.hid ⟨OwnInts.empty _ _ wo (Nat.le_refl _), (Below.refl _ _).alloc (Nat.le_refl _) _⟩
            clear HA1
            go_loopw [9, 10] (fun v i wr => ∃ k : Nat, k ≤ 32 ∧ i = .int .i64 k ∧ Hid (OwnInts .u32 25 wr wo.heap.size v (tabOf (8 * (2 * e)) k) ∧ Below wo.heap.size wo wr)) (fun _ i _ => 32 - (intOf i).toNat)
            case atStart => exact ⟨0, by omega, rfl, HO3⟩
            case round =>
              obtain ⟨k, hk, rfl, HO4⟩ := hrel
              clear HO3
              by_cases hlt : k < 32
              · have hp2 : 2 ^ k ≤ 2 ^ 31 := Nat.pow_le_pow_right (by omega) (by omega)
                obtain ⟨ad, rfl, _, hcell⟩ := (HV.out.below HO4.out.2) k (by rw [tab_len]; exact hlt)
                rw [tab_at _ _ _ hlt] at hcell
                have hpl : Tn (8 * e) (2 ^ k) < 4294967296 := Tn_lt _ (by omega)
                have HS := Lib.hid (tab_succ (8 * (2 * e)) k)
                have hS2 : Tn (8 * (2 * e)) (2 ^ k) = Tn (8 * e) (Tn (8 * e) (2 ^ k)) := by rw [Tn_double]; congr 1; omega
                rw [hS2] at HS
                obtain ⟨p, hp⟩ : ∃ p, Tn (8 * e) (2 ^ k) = p := ⟨_, rfl⟩
                rw [hp] at hcell hpl HS
                have HA2 := Lib.hid (HAP.out wr HO4.out.2 p hpl)
                obtain ⟨x, hx⟩ : ∃ x, Tn (8 * e) p = x := ⟨_, rfl⟩
                rw [hx] at HA2 HS
                have HTL := Lib.hid (tab_len (8 * (2 * e)) k)
                clear hp2 hS2 hp hx hpl
                go_wp2_with (first
                  | (go_at_call 30; refine (HA2.out).mono ?_; rintro e' w' ⟨rfl, rfl⟩)
                  | (at_builtin; refine wpList_app (by simp [Region.wanted, yielded]) (.tmp 36) (.tmp 43) 44 rfl (v := u9) (B := wr.heap.size + 1) (c := 1) (A := some ⟨wr.heap.size, 0, none⟩) (zs := [(x : Int)]) Tryd.underlying44 HI.out HZ0.out HZ1.out HZ2.out rfl rfl (HO4.out.1.alloc _) rfl (IntsAt.new .u32 wr 25 (0, 0) [(x : Int)]) rfl (by rw [HTL.out]; simp [maxLen]; omega) (by rw [HTL.out]; omega) (Nat.le_trans HO4.out.2.size (by simp)) ?_; intro v2 w2 ho2 hg2 ha2; have hb2 := HO4.out.2.trans (((Below.refl wo.heap.size wr).alloc HO4.out.2.size _).trans ((HO4.out.1.alloc _).grownBelow hg2 (Nat.le_trans HO4.out.2.size (by simp)))); rw [← HS.out] at ho2; have HQ := Lib.hid (And.intro ho2 hb2); clear ho2 hg2 ha2 hb2))
                go_roundw
                case rel => exact ⟨k + 1, by omega, by go_num, HQ⟩
                case measure => simp [intOf]; omega
              · have h32 : k = 32 := by omega
                have hki : (k : Int) = 32 := by omega
                rw [hki]
                rw [h32] at HO4
                clear HAP hki hk hlt h32
                go_wp2
                go_roundw
                case rel => exact ⟨X, (H : Int), 2 * e, rfl, rfl, HYL.out, by omega, Lib.hid ⟨HY.out, own_mono HO4.out.1 HO.out.2.2.size, HO.out.2.2.trans (HO4.out.2.mono HO.out.2.2.size)⟩⟩
                case measure => simp [intOf]; omega
          · have HY : Hid (Tn (8 * (2 * e) * (H : Int).toNat) (Tn (8 * e) X) = Tn (8 * n.toNat) a) := Lib.hid (by
              rw [← HO.out.1, ← Tn_add]; congr 1
              have e1 : N = 2 * H + 1 := by omega
              rw [e1, Int.toNat_natCast, Int.toNat_natCast, Nat.mul_add (8 * e), Nat.mul_one, Nat.add_comm]; congr 1
              simp only [Nat.mul_assoc, Nat.mul_left_comm])
            have HYL : Hid (Tn (8 * e) X < 4294967296) := Lib.hid (Tn_lt _ hX)
            have ht1 : (t : Int) = 1 := by omega
            obtain ⟨Y, hY⟩ : ∃ Y, Tn (8 * e) X = Y := ⟨_, rfl⟩
            rw [hY] at HY HYL HA1
            clear ht ht2 hH hY
            go_wp2_with (go_at_call 30; refine (HA1.out).mono ?_; rintro e' w' ⟨rfl, rfl⟩)
            have HO3 : Hid (OwnInts .u32 25 (wo.alloc (.cells #[] 25)) wo.heap.size (.slice (some ⟨wo.heap.size, 0, none⟩) 0 0) (tabOf (8 * (2 * e)) 0) ∧ Below wo.heap.size wo (wo.alloc (.cells #[] 25))) := Lib.hid ⟨OwnInts.empty _ _ wo (Nat.le_refl _), (Below.refl _ _).alloc (Nat.le_refl _) _⟩
            clear HA1
            go_loopw [9, 10] (fun v i wr => ∃ k : Nat, k ≤ 32 ∧ i = .int .i64 k ∧ Hid (OwnInts .u32 25 wr wo.heap.size v (tabOf (8 * (2 * e)) k) ∧ Below wo.heap.size wo wr)) (fun _ i _ => 32 - (intOf i).toNat)
            case atStart => exact ⟨0, by omega, rfl, HO3⟩
            case round =>
              obtain ⟨k, hk, rfl, HO4⟩ := hrel
              clear HO3
              by_cases hlt : k < 32
              · have hp2 : 2 ^ k ≤ 2 ^ 31 := Nat.pow_le_pow_right (by omega) (by omega)
                obtain ⟨ad, rfl, _, hcell⟩ := (HV.out.below HO4.out.2) k (by rw [tab_len]; exact hlt)
                rw [tab_at _ _ _ hlt] at hcell
                have hpl : Tn (8 * e) (2 ^ k) < 4294967296 := Tn_lt _ (by omega)
                have HS := Lib.hid (tab_succ (8 * (2 * e)) k)
                have hS2 : Tn (8 * (2 * e)) (2 ^ k) = Tn (8 * e) (Tn (8 * e) (2 ^ k)) := by rw [Tn_double]; congr 1; omega
                rw [hS2] at HS
                obtain ⟨p, hp⟩ : ∃ p, Tn (8 * e) (2 ^ k) = p := ⟨_, rfl⟩
                rw [hp] at hcell hpl HS
                have HA2 := Lib.hid (HAP.out wr HO4.out.2 p hpl)
                obtain ⟨x, hx⟩ : ∃ x, Tn (8 * e) p = x := ⟨_, rfl⟩
                rw [hx] at HA2 HS
                have HTL := Lib.hid (tab_len (8 * (2 * e)) k)
                clear hp2 hS2 hp hx hpl
                go_wp2_with (first
                  | (go_at_call 30; refine (HA2.out).mono ?_; rintro e' w' ⟨rfl, rfl⟩)
                  | (at_builtin; refine wpList_app (by simp [Region.wanted, yielded]) (.tmp 36) (.tmp 43) 44 rfl (v := u9) (B := wr.heap.size + 1) (c := 1) (A := some ⟨wr.heap.size, 0, none⟩) (zs := [(x : Int)]) Tryd.underlying44 HI.out HZ0.out HZ1.out HZ2.out rfl rfl (HO4.out.1.alloc _) rfl (IntsAt.new .u32 wr 25 (0, 0) [(x : Int)]) rfl (by rw [HTL.out]; simp [maxLen]; omega) (by rw [HTL.out]; omega) (Nat.le_trans HO4.out.2.size (by simp)) ?_; intro v2 w2 ho2 hg2 ha2; have hb2 := HO4.out.2.trans (((Below.refl wo.heap.size wr).alloc HO4.out.2.size _).trans ((HO4.out.1.alloc _).grownBelow hg2 (Nat.le_trans HO4.out.2.size (by simp)))); rw [← HS.out] at ho2; have HQ := Lib.hid (And.intro ho2 hb2); clear ho2 hg2 ha2 hb2))
                go_roundw
                case rel => exact ⟨k + 1, by omega, by go_num, HQ⟩
                case measure => simp [intOf]; omega
              · have h32 : k = 32 := by omega
                have hki : (k : Int) = 32 := by omega
                rw [hki]
                rw [h32] at HO4
                clear HAP hki hk hlt h32
                go_wp2
                go_roundw
                case rel => exact ⟨Y, (H : Int), 2 * e, rfl, rfl, HYL.out, by omega, Lib.hid ⟨HY.out, own_mono HO4.out.1 HO.out.2.2.size, HO.out.2.2.trans (HO4.out.2.mono HO.out.2.2.size)⟩⟩
                case measure => simp [intOf]; omega
        · have HX : Hid (X = Tn (8 * n.toNat) a) := Lib.hid (by have := HO.out.1; rw [show Z.toNat = 0 by omega, Nat.mul_zero] at this; exact this)
          have hxb : bits .xor .u32 (X : Int) (b : Int) = ((X ^^^ b : Nat) : Int) := u32_xor_nat _ _ (by omega) (by omega)
          have hz0 : Z ≤ 0 := by omega
          go_wp2
          go_ret
          exact ⟨ret_int (by unfold comb; rw [HX.out]), HO.out.2.2⟩
end Go.Proofs.YtehojhgpgliemaaDoor.Base
