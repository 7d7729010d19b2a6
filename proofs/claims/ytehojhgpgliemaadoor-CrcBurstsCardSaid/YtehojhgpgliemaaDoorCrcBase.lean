/-
  CONTRACTS OF PACKAGE crc's AND THE REFERENCE's BYTE-WISE FUNCTIONS, in a world whose two tables hold their sixteen numbers.
-/
import Derived.Test.YtehojhgpgliemaaDoorRows
import Derived.Test.YtehojhgpgliemaaDoorCrcMath
import Derived.Test.YtehojhgpgliemaaDoorLaw
import Derived.Test.YtehojhgpgliemaaDoorArgs
import Derived.IntWalk
import Derived.BigQuiet
import Derived.Handy
import Derived.Lib.SlBytesConst
namespace Go.Proofs.YtehojhgpgliemaaDoor.Base
open Go.ChangeShapes Go.WideShapes Go.ChangeAt Go.RowKit Go.Proofs.YtehojhgpgliemaaDoor.CrcMath Go.Proofs.YtehojhgpgliemaaDoor.Law Go.Proofs.YtehojhgpgliemaaDoor.Args

theorem ret_bool {a b : Bool} (h : a = b) : Ending.returned (.bool a) = .returned (.bool b) := by rw [h]
theorem ret_int {k : IntKind} {a b : Int} (h : a = b) : Ending.returned (.int k a) = .returned (.int k b) := by rw [h]
theorem val_int {k : IntKind} {a b : Int} (h : a = b) : Value.int k a = Value.int k b := by rw [h]
theorem wf_i64 {a : Int} (h : (Lit.int .i64 a).wf = true) : -9223372036854775808 ≤ a ∧ a ≤ 9223372036854775807 := by
  simpa [Lit.wf, IntKind.min, IntKind.max, IntKind.bits, IntKind.signed] using h
theorem wf_u64 {a : Int} (h : (Lit.int .u64 a).wf = true) : 0 ≤ a ∧ a ≤ 18446744073709551615 := by
  simpa [Lit.wf, IntKind.min, IntKind.max, IntKind.bits, IntKind.signed] using h
theorem wf_u32 {a : Int} (h : (Lit.int .u32 a).wf = true) : 0 ≤ a ∧ a ≤ 4294967295 := by
  simpa [Lit.wf, IntKind.min, IntKind.max, IntKind.bits, IntKind.signed] using h
theorem wf_u8 {a : Int} (h : (Lit.int .u8 a).wf = true) : 0 ≤ a ∧ a ≤ 255 := by
  simpa [Lit.wf, IntKind.min, IntKind.max, IntKind.bits, IntKind.signed] using h

/-- THE TWO TABLES LIE IN THE WORLD. -/
def Tab (w : World) : Prop := ∀ i, i < 16 → w.cell? ⟨0, i, none⟩ = some (.int .u32 (lowL.getD i 0)) ∧ w.cell? ⟨1, i, none⟩ = some (.int .u32 (highL.getD i 0))
theorem Tab.drewN {w : World} (h : Tab w) (n : Nat) : Tab (w.drewN n) := h
theorem Tab.below {w w' : World} (h : Tab w) (hb : Below w.heap.size w w') : Tab w' := fun i hi => by
  have h0 := h i hi
  exact ⟨(hb.cell (p := ⟨_, i, none⟩) (cell_lt h0.1)).trans h0.1, (hb.cell (p := ⟨_, i, none⟩) (cell_lt h0.2)).trans h0.2⟩

theorem shiftByte_any (r b : Nat) (w : World) (hr : r < 4294967296) (hb : b < 256) (ht : Hid (Tab w)) :
    Calls Tryd.prog 28 #[.int .u32 (r : Int), .int .u8 (b : Int)] w fun e w' => e = .returned (.int .u32 ((sb r b : Nat) : Int)) ∧ ∃ n, w' = w.drewN n := by
  obtain ⟨q, hq⟩ : ∃ q, r ^^^ b = q := ⟨_, rfl⟩
  have hql : q < 4294967296 := by rw [← hq]; exact xor_lt 32 hr (by omega)
  have e1 : bits .xor .u32 (r : Int) (b : Int) = (q : Int) := by rw [u32_xor_nat _ _ hr (by omega), hq]
  have e2 : bits .and .u32 (q : Int) 15 = ((q % 16 : Nat) : Int) := by
    rw [show (15 : Int) = ((2 ^ 4 - 1 : Nat) : Int) from rfl, u32_and_nat _ _ hql (by omega), Nat.and_two_pow_sub_one_eq_mod]
  have e3 : bits .and .u32 ((q : Int) / 16) 15 = ((q / 16 % 16 : Nat) : Int) := by
    rw [show (15 : Int) = ((2 ^ 4 - 1 : Nat) : Int) from rfl, show (q : Int) / 16 = ((q / 16 : Nat) : Int) from by omega, u32_and_nat _ _ (by omega) (by omega), Nat.and_two_pow_sub_one_eq_mod]
  obtain ⟨i, hi⟩ : ∃ i, q % 16 = i := ⟨_, rfl⟩
  obtain ⟨j, hj⟩ : ∃ j, q / 16 % 16 = j := ⟨_, rfl⟩
  have hi16 : i < 16 := by omega
  have hj16 : j < 16 := by omega
  rw [hi] at e2
  rw [hj] at e3
  have c0 := (ht.out i hi16).1
  have c1 := (ht.out j hj16).2
  rw [low_tab i hi16] at c0
  rw [high_tab j hj16] at c1
  have hl0 := Tn_lt 8 (r := i) (by omega)
  have hl1 := Tn_lt 8 (r := 16 * j) (by omega)
  have E : Hid (bits .xor .u32 (bits .xor .u32 ((q : Int) / 256) ((Tn 8 i : Nat) : Int)) ((Tn 8 (16 * j) : Nat) : Int) = ((sb r b : Nat) : Int)) := by
    apply Lib.hid
    unfold sb
    rw [hq, byte_tab q, hi, hj, show (q : Int) / 256 = ((q / 256 : Nat) : Int) from by omega, u32_xor_nat _ _ (by omega) hl0, u32_xor_nat _ _ (xor_lt 32 (by omega) hl0) hl1]
  clear hq hi hj
  go_enter Tryd.func28, Tryd.ntmps28
  go_wp2
  go_quiet (fail)
  go_wp2
  go_ret
  exact ⟨ret_int E.out, _, rfl⟩

/-- The bytes of a slice as numbers below 256. -/
theorem byte_at {zs : List Int} (hw : ∀ z ∈ zs, (Lit.int .u8 z).wf = true) {k : Nat} (h : k < zs.length) : ∃ b : Nat, b < 256 ∧ zs.getD k 0 = (b : Int) := by
  have := wf_u8 (wf_at hw h)
  exact ⟨(zs.getD k 0).toNat, by omega, by omega⟩
theorem bytes_range {zs : List Int} (hw : ∀ z ∈ zs, (Lit.int .u8 z).wf = true) : ∀ z ∈ zs, 0 ≤ z ∧ z ≤ 255 := fun z hz => wf_u8 (hw z hz)
theorem not32 (c : Nat) (hc : c < 4294967296) : bits .xor .u32 IntKind.u32.max (c : Int) = ((4294967295 - c : Nat) : Int) := by
  rw [show IntKind.u32.max = ((4294967295 : Nat) : Int) from rfl, u32_xor_nat _ _ (by omega) hc]
  have h : (BitVec.allOnes 32 ^^^ BitVec.ofNat 32 c).toNat = 4294967295 - c := by
    rw [BitVec.allOnes_xor, BitVec.toNat_not, BitVec.toNat_ofNat, Nat.mod_eq_of_lt hc]
  rw [BitVec.toNat_xor, BitVec.toNat_ofNat, Nat.mod_eq_of_lt hc] at h
  exact congrArg Int.ofNat h
theorem update_any (c : Nat) (A : Option Addr) (n cap B : Nat) (zs : List Int) (w : World) (hc : c < 4294967296) (hl : zs.length = n) (hn : n ≤ 9223372036854775807) (ht : Hid (Tab w)) (hr : Hid (IntsAt .u8 w B A zs)) (hw : Hid (∀ z ∈ zs, (Lit.int .u8 z).wf = true)) :
    Calls Tryd.prog 18 #[.int .u32 (c : Int), .slice A n cap] w fun e w' => e = .returned (.int .u32 ((crcN c zs : Nat) : Int)) ∧ ∃ n, w' = w.drewN n := by
  have HL := Lib.hid hl
  obtain ⟨d, hd⟩ : ∃ d : Nat, 4294967295 - c = d := ⟨_, rfl⟩
  have hdl : d < 4294967296 := by omega
  have hnot := not32 c hc
  rw [hd] at hnot
  have HD := Lib.hid hd
  clear hl hd
  go_enter Tryd.func18, Tryd.ntmps18
  go_wp2
  go_loopw [5, 12] (fun v i wr => ∃ k m : Nat, k ≤ n ∧ i = .int .i64 k ∧ v = .int .u32 ((upd d (zs.take k) : Nat) : Int) ∧ wr = w.drewN m) (fun _ i _ => n - (intOf i).toNat)
  case atStart => exact ⟨0, 0, by omega, rfl, rfl, rfl⟩
  case round =>
    obtain ⟨k, m, hk, rfl, rfl, rfl⟩ := hrel
    have hul := upd_lt (zs.take k) hdl (fun z hz => bytes_range hw.out z (List.mem_of_mem_take hz))
    by_cases hlt : k < n
    · have hkl : k < zs.length := by have := HL.out; omega
      obtain ⟨ad, rfl, _, hcell⟩ := hr.out k hkl
      obtain ⟨b, hb, eb⟩ := byte_at hw.out hkl
      have HS := Lib.hid (upd_snoc d zs k hkl)
      rw [eb] at hcell
      have EB := Lib.hid eb
      clear eb hkl
      obtain ⟨u, hu⟩ : ∃ u, upd d (zs.take k) = u := ⟨_, rfl⟩
      rw [hu] at hul
      have HU := Lib.hid hu
      rw [hu]
      clear hu
      go_wp2_with (go_at_call 28; refine (shiftByte_any _ _ _ (by omega) hb (Lib.hid (ht.out.drewN _))).mono ?_; rintro e w' ⟨rfl, m1, rfl⟩)
      go_roundw
      case rel => exact ⟨k + 1, m + m1, by omega, by go_num, val_int (by rw [HS.out, EB.out, HU.out]; rfl), by simp⟩
      case measure => simp [intOf]; omega
    · have hk' : zs.length ≤ k := by have := HL.out; omega
      have HT := Lib.hid (List.take_of_length_le hk')
      have hn2 := not32 _ hul
      clear hk'
      go_wp2
      go_ret
      exact ⟨ret_int (by rw [HT.out]; unfold crcN; rw [HD.out]), m, rfl⟩
theorem sum_any (A : Option Addr) (n cap B : Nat) (zs : List Int) (w : World) (hl : zs.length = n) (hn : n ≤ 9223372036854775807) (ht : Hid (Tab w)) (hr : Hid (IntsAt .u8 w B A zs)) (hw : Hid (∀ z ∈ zs, (Lit.int .u8 z).wf = true)) :
    Calls Tryd.prog 15 #[.slice A n cap] w fun e w' => e = .returned (.int .u32 ((crcN 0 zs : Nat) : Int)) ∧ ∃ n, w' = w.drewN n := by
  have HL := Lib.hid hl
  clear hl
  have HU := Lib.hid (update_any 0 A n cap B zs w (by omega) HL.out hn ht hr hw)
  go_enter Tryd.func15, Tryd.ntmps15
  go_wp2_with (go_at_call 18; refine (HU.out).mono ?_; rintro e w' ⟨rfl, m1, rfl⟩)
  go_ret
  exact ⟨rfl, m1, rfl⟩

/-! ### the reference -/
theorem register_any (r : Nat) (A : Option Addr) (n cap B : Nat) (zs : List Int) (w : World) (hc : r < 4294967296) (hl : zs.length = n) (hn : n ≤ 9223372036854775807) (hr : Hid (IntsAt .u8 w B A zs)) (hw : Hid (∀ z ∈ zs, (Lit.int .u8 z).wf = true)) :
    Calls Tryd.prog 27 #[.int .u32 (r : Int), .slice A n cap] w fun e w' => e = .returned (.int .u32 ((upd r zs : Nat) : Int)) ∧ ∃ n, w' = w.drewN n := by
  have HL := Lib.hid hl
  clear hl
  go_enter Tryd.func27, Tryd.ntmps27
  go_wp2
  go_loopw [0, 5] (fun v i wr => ∃ k m : Nat, k ≤ n ∧ i = .int .i64 k ∧ v = .int .u32 ((upd r (zs.take k) : Nat) : Int) ∧ wr = w.drewN m) (fun _ i _ => n - (intOf i).toNat)
  case atStart => exact ⟨0, 0, by omega, rfl, rfl, rfl⟩
  case round =>
    obtain ⟨k, m, hk, rfl, rfl, rfl⟩ := hrel
    have hul := upd_lt (zs.take k) hc (fun z hz => bytes_range hw.out z (List.mem_of_mem_take hz))
    by_cases hlt : k < n
    · have hkl : k < zs.length := by have := HL.out; omega
      obtain ⟨ad, rfl, _, hcell⟩ := hr.out k hkl
      obtain ⟨b, hb, eb⟩ := byte_at hw.out hkl
      have HS := Lib.hid (upd_snoc r zs k hkl)
      rw [eb] at hcell
      have EB := Lib.hid eb
      clear eb hkl
      obtain ⟨u, hu⟩ : ∃ u, upd r (zs.take k) = u := ⟨_, rfl⟩
      rw [hu] at hul
      have HU := Lib.hid hu
      rw [hu]
      clear hu
      go_wp2
      go_loopw [0, 6] (fun v i wr => ∃ t m : Nat, t ≤ 8 ∧ i = .int .i64 t ∧ v = .int .u32 ((rk u b t : Nat) : Int) ∧ wr = w.drewN m) (fun _ i _ => 8 - (intOf i).toNat)
      case atStart => exact ⟨0, m, by omega, rfl, rfl, rfl⟩
      case round =>
        obtain ⟨t, m2, htt, rfl, rfl, rfl⟩ := hrel
        by_cases ht8 : t < 8
        · have hxl := rk_lt (b := b) (k := t) hul
          have HX : Hid (rk u b (t + 1) = rk u b t / 2 ^^^ (if (rk u b t % 2 + b / 2 ^ t % 2) % 2 = 1 then 2197175160 else 0)) := Lib.hid rfl
          obtain ⟨x, hx⟩ : ∃ x, rk u b t = x := ⟨_, rfl⟩
          rw [hx] at hxl
          have HX2 := Lib.hid hx
          rw [hx]
          clear hx
          have hp1 : 1 ≤ 2 ^ t := Nat.two_pow_pos t
          have hp2 : 2 ^ t ≤ 2 ^ 7 := Nat.pow_le_pow_right (by omega) (by omega)
          have hpc : ((2 ^ t : Nat) : Int) = 2 ^ t := by simp
          obtain ⟨p, hp⟩ : ∃ p, 2 ^ t = p := ⟨_, rfl⟩
          rw [hp] at hp1 hp2 hpc
          have hpw : IntKind.u32.wrap (2 ^ t) = (p : Int) := by rw [← hpc]; exact IntWalk.u32_in _ (by omega)
          have HP := Lib.hid hp
          obtain ⟨y, hy⟩ : ∃ y : Nat, b / p % 2 = y := ⟨_, rfl⟩
          have hyc : (b : Int) / (p : Int) % 2 = (y : Int) := by rw [← hy]; rfl
          have hy2 : y < 2 := by omega
          have hq1 : 0 ≤ (b : Int) / (p : Int) := Int.ediv_nonneg (by omega) (by omega)
          have hq2 : (b : Int) / (p : Int) ≤ b := Int.ediv_le_self _ (by omega)
          have HY := Lib.hid hy
          clear hy hp hpc
          by_cases hodd : (x % 2 + y) % 2 = 1
          · have ho : ((x : Int) % 2 + (y : Int)) % 2 = 1 := by omega
            have hxx : bits .xor .u32 ((x : Int) / 2) 2197175160 = ((x / 2 ^^^ 2197175160 : Nat) : Int) := by
              rw [show (x : Int) / 2 = ((x / 2 : Nat) : Int) from by omega, show (2197175160 : Int) = ((2197175160 : Nat) : Int) from rfl, u32_xor_nat _ _ (by omega) (by omega)]
            have HO := Lib.hid hodd
            clear hodd
            go_wp2
            go_quiet (fail)
            go_wp2
            go_roundw
            case rel => exact ⟨t + 1, _, by omega, by go_num, val_int (by rw [HX.out, HX2.out, HP.out, HY.out, if_pos HO.out]), by first | rfl | simp⟩
            case measure => simp [intOf]; omega
          · have ho : ((x : Int) % 2 + (y : Int)) % 2 = 0 := by omega
            have HO := Lib.hid hodd
            clear hodd
            go_wp2
            go_quiet (fail)
            go_wp2
            go_roundw
            case rel => exact ⟨t + 1, _, by omega, by go_num, val_int (by rw [HX.out, HX2.out, HP.out, HY.out, if_neg HO.out, Nat.xor_zero]; omega), by first | rfl | simp⟩
            case measure => simp [intOf]; omega
        · have h8 : t = 8 := by omega
          subst h8
          have HR := Lib.hid (rk_8 u b hb)
          go_wp2
          go_roundw
          case rel => exact ⟨k + 1, _, by omega, by go_num, val_int (by rw [HS.out, EB.out, HU.out, HR.out]; rfl), by first | rfl | simp⟩
          case measure => simp [intOf]; omega
    · have hk' : zs.length ≤ k := by have := HL.out; omega
      have HT := Lib.hid (List.take_of_length_le hk')
      clear hk'
      go_wp2
      go_ret
      exact ⟨ret_int (by rw [HT.out]), m, rfl⟩
theorem rsum_any (A : Option Addr) (n cap B : Nat) (zs : List Int) (w : World) (hl : zs.length = n) (hn : n ≤ 9223372036854775807) (hr : Hid (IntsAt .u8 w B A zs)) (hw : Hid (∀ z ∈ zs, (Lit.int .u8 z).wf = true)) :
    Calls Tryd.prog 16 #[.slice A n cap] w fun e w' => e = .returned (.int .u32 ((crcN 0 zs : Nat) : Int)) ∧ ∃ n, w' = w.drewN n := by
  obtain ⟨d, hd⟩ : ∃ d : Nat, 4294967295 = d := ⟨_, rfl⟩
  have hdc : (4294967295 : Int) = (d : Int) := by omega
  have HU := register_any d A n cap B zs w (by omega) hl hn hr hw
  rw [← hdc] at HU
  have HV := Lib.hid HU
  clear HU
  have e0 : crcN 0 zs = 4294967295 - upd d zs := by unfold crcN; rw [Nat.sub_zero, ← hd]
  have E0 := Lib.hid e0
  have hul := upd_lt zs (show d < 4294967296 by omega) (fun z hz => bytes_range hw.out z hz)
  have hn2 := not32 _ hul
  clear hl e0 hdc hd
  go_enter Tryd.func16, Tryd.ntmps16
  go_wp2_with (go_at_call 27; refine (HV.out).mono ?_; rintro e w' ⟨rfl, m1, rfl⟩)
  go_ret
  exact ⟨ret_int (by rw [E0.out]), m1, rfl⟩
theorem rupdate_any (c : Nat) (A : Option Addr) (n cap B : Nat) (zs : List Int) (w : World) (hc : c < 4294967296) (hl : zs.length = n) (hn : n ≤ 9223372036854775807) (hr : Hid (IntsAt .u8 w B A zs)) (hw : Hid (∀ z ∈ zs, (Lit.int .u8 z).wf = true)) :
    Calls Tryd.prog 19 #[.int .u32 (c : Int), .slice A n cap] w fun e w' => e = .returned (.int .u32 ((crcN c zs : Nat) : Int)) ∧ ∃ n, w' = w.drewN n := by
  obtain ⟨d, hd⟩ : ∃ d : Nat, 4294967295 - c = d := ⟨_, rfl⟩
  have hnot := not32 c hc
  rw [hd] at hnot
  have HV := Lib.hid (register_any d A n cap B zs w (by omega) hl hn hr hw)
  have hul := upd_lt zs (show d < 4294967296 by omega) (fun z hz => bytes_range hw.out z hz)
  have e0 : crcN c zs = 4294967295 - upd d zs := by unfold crcN; rw [hd]
  have E0 := Lib.hid e0
  have hn2 := not32 _ hul
  clear hl hd e0
  go_enter Tryd.func19, Tryd.ntmps19
  go_wp2_with (fail)
  go_wp2_with (go_at_call 27; refine (HV.out).mono ?_; rintro e w' ⟨rfl, m1, rfl⟩)
  go_ret
  exact ⟨ret_int (by rw [E0.out]), m1, rfl⟩
/-! ### Cut, awake -/
theorem cut_any (A : Option Addr) (n c m : Nat) (w : World) (hn : n ≤ c) (hc : c ≤ 9223372036854775807) (hm : m ≤ 9223372036854775807) :
    Calls Tryd.prog 13 #[.slice A n c, .int .i64 (m : Int)] w fun e w' => e = .returned (.slice A (min n m) c) ∧ w = w' := by
  by_cases h : m < n
  · have e : min n m = m := by omega
    rw [e]
    clear e
    have h' : m ≤ c := by omega
    go_enter Tryd.func13, Tryd.ntmps13
    go_wp2
    go_ret
    exact ⟨rfl, rfl⟩
  · have e : min n m = n := by omega
    rw [e]
    have h' : n ≤ m := by omega
    clear e h
    go_enter Tryd.func13, Tryd.ntmps13
    go_wp2
    go_ret
    exact ⟨rfl, rfl⟩
theorem awake_any (w : World) (ht : Hid (Tab w)) : Calls Tryd.prog 14 #[] w fun e w' => e = .returned (.bool true) ∧ Below w.heap.size w w' := by
  have hb : Below w.heap.size w (w.alloc (.cells #[.int .u8 49, .int .u8 50, .int .u8 51, .int .u8 52, .int .u8 53, .int .u8 54, .int .u8 55, .int .u8 56, .int .u8 57] 5 (9, 10))) := (Below.refl _ _).alloc (Nat.le_refl _) _
  have HU := sum_any (some ⟨w.heap.size, 0, none⟩) 9 9 (w.heap.size + 1) [49, 50, 51, 52, 53, 54, 55, 56, 57] (w.alloc (.cells #[.int .u8 49, .int .u8 50, .int .u8 51, .int .u8 52, .int .u8 53, .int .u8 54, .int .u8 55, .int .u8 56, .int .u8 57] 5 (9, 10))) rfl (by omega)
    (Lib.hid (ht.out.below hb)) (Lib.hid (IntsAt.new .u8 w 5 (9, 10) [49, 50, 51, 52, 53, 54, 55, 56, 57])) (Lib.hid (by decide))
  have hv : ((crcN 0 [49, 50, 51, 52, 53, 54, 55, 56, 57] : Nat) : Int) = 3808858755 := by decide +kernel
  rw [hv] at HU
  have HV := Lib.hid HU
  clear HU
  clear hv
  have HB := Lib.hid hb
  clear hb
  have kc := fun (w : World) (C : Array Value) (n c : Nat) => Lib.run_convert_bytes_const (P := Tryd.prog) w 22 5 C n c Tryd.underlying22 Tryd.underlying5
  go_enter Tryd.func14, Tryd.ntmps14
  go_wp2_with (go_at_call 15; refine (HV.out).mono ?_; rintro e w' ⟨rfl, m1, rfl⟩)
  go_ret
  exact ⟨rfl, below_draws HB.out _⟩
end Go.Proofs.YtehojhgpgliemaaDoor.Base
