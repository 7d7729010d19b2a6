/-
  PROVED: the law WordBits answers true for every input, and each argument reads behind the call as before (Rows.WordBitsCardSaid). No condition.
-/
import Derived.Test.YtgfiddjlbjlolaaDoorCards
import Derived.Test.YtgfiddjlbjlolaaDoorTie
import Derived.Test.YtgfiddjlbjlolaaDoorLaid
import Derived.Test.YtgfiddjlbjlolaaDoorLaw
import Derived.Test.YtgfiddjlbjlolaaDoorArgs
import Derived.Test.YtgfiddjlbjlolaaDoorAwake
import Derived.Test.YtgfiddjlbjlolaaDoorSelMath
import Derived.Test.YtgfiddjlbjlolaaDoorBitsLaid
namespace Go.Proofs.YtgfiddjlbjlolaaDoor.wordBits
open Go.ChangeShapes Go.WideShapes Go.ChangeAt Go.RowKit Go.Proofs.YtgfiddjlbjlolaaDoor.Law Go.Proofs.YtgfiddjlbjlolaaDoor.Args Go.Proofs.YtgfiddjlbjlolaaDoor.Base
set_option linter.unusedVariables false
set_option linter.unusedSimpArgs false
open Go.Proofs.YtgfiddjlbjlolaaDoor.WordMath Go.Proofs.YtgfiddjlbjlolaaDoor.OnesMath Go.Proofs.YtgfiddjlbjlolaaDoor.SelMath
/-! ### the contracts -/
theorem Tab.drewN {w : World} (h : Tab w) (n : Nat) : Tab (w.drewN n) := h
theorem tz_any (t q : Nat) (w : World) (h : 2 ^ t * (2 * q + 1) < 18446744073709551616) (ht : Hid (Tab w)) :
    Calls Tryd.prog 17 #[.int .u64 ((2 ^ t * (2 * q + 1) : Nat) : Int)] w fun e w' => e = .returned (.int .i64 (t : Int)) ∧ w = w' := by
  obtain ⟨ht64, _⟩ := low_lt h
  obtain ⟨d1, d2⟩ := db t ht64
  have hiso := iso_eq t q h
  have hpos : 1 ≤ 2 ^ t * (2 * q + 1) := Nat.mul_pos (Nat.two_pow_pos t) (by omega)
  obtain ⟨X, hX⟩ : ∃ X, 2 ^ t * (2 * q + 1) = X := ⟨_, rfl⟩
  rw [hX] at h hiso hpos ⊢
  obtain ⟨I, hI⟩ : ∃ I, 2 ^ t * 285870213051353865 % 18446744073709551616 / 288230376151711744 = I := ⟨_, rfl⟩
  rw [hI] at d1 d2
  have c0 := ht.out I d1
  rw [d2] at c0
  have e1 : IntKind.u64.wrap (-(X : Int)) = ((18446744073709551616 - X : Nat) : Int) := by rw [IntKind.wrap_u64]; omega
  have e2 : bits .and .u64 (X : Int) ((18446744073709551616 - X : Nat) : Int) = ((2 ^ t : Nat) : Int) := by rw [u64_and_nat _ _ h (by omega), hiso]
  obtain ⟨Y, hY⟩ : ∃ Y, 18446744073709551616 - X = Y := ⟨_, rfl⟩
  obtain ⟨Z, hZ⟩ : ∃ Z, 2 ^ t = Z := ⟨_, rfl⟩
  rw [hY] at e1 e2
  rw [hZ] at e2 hI
  have e3 : IntKind.u64.wrap ((Z : Int) * 285870213051353865) / 288230376151711744 = (I : Int) := by rw [IntKind.wrap_u64, ← hI, Int.natCast_ediv, Int.natCast_emod, Int.natCast_mul]; rfl
  have hne : ((X : Int) == 0) = false := by simp; omega
  clear hX hiso hY hZ hI d2
  go_enter Tryd.func17, Tryd.ntmps17
  go_wp2
  go_ret
  exact ⟨rfl, rfl⟩
theorem lowest_any (X : Nat) (w : World) (h : X < 18446744073709551616) (ht : Hid (Tab w)) :
    Calls Tryd.prog 7 #[.int .u64 (X : Int)] w fun e w' => e = .returned (.int .i64 (selZ X 0)) ∧ w = w' := by
  by_cases h0 : X = 0
  · subst h0
    have HS := Lib.hid (sel_none0 0)
    go_enter Tryd.func7, Tryd.ntmps7
    go_wp2
    go_ret
    exact ⟨ret_int HS.out.symm, rfl⟩
  · obtain ⟨t, q, e⟩ := low_form X h0
    have ht64 := low_lt (e ▸ h)
    have HC := tz_any t q w (e ▸ h) ht
    rw [← e] at HC
    have HD := Lib.hid HC
    have HS : Hid (selZ X 0 = t) := Lib.hid (by rw [e]; exact sel_zero t q ht64.1)
    have hne : ((X : Int) == 0) = false := by simp; omega
    clear e HC h0
    go_enter Tryd.func7, Tryd.ntmps7
    go_wp2_with (go_at_call 17; refine (HD.out).mono ?_; rintro e w' ⟨rfl, rfl⟩)
    go_ret
    exact ⟨ret_int HS.out.symm, rfl⟩
theorem wones_any (x : Int) (w : World) (h0 : 0 ≤ x) (h1 : x ≤ 18446744073709551615) : Calls Tryd.prog 5 #[.int .u64 x] w fun e w' => e = .returned (.int .i64 (onesC x)) ∧ w = w' := by
  go_enter Tryd.func5, Tryd.ntmps5
  go_wp2_with (go_at_call 15; refine (ones_any _ _ (by omega) (by omega)).mono ?_; rintro e w' ⟨rfl, rfl⟩)
  go_ret
  exact ⟨rfl, rfl⟩
theorem select_any (X : Nat) (k : Int) (w : World) (h : X < 18446744073709551616) (ht : Hid (Tab w)) :
    Calls Tryd.prog 9 #[.int .u64 (X : Int), .int .i64 k] w fun e w' => e = .returned (.int .i64 (selZ X k)) ∧ w = w' := by
  by_cases hk : k < 0
  · have HS := Lib.hid (sel_out X k (Or.inl hk))
    go_enter Tryd.func9, Tryd.ntmps9
    go_wp2
    go_ret
    exact ⟨ret_int HS.out.symm, rfl⟩
  · have hk0 : 0 ≤ k := by omega
    have HC := wones_any (X : Int) w (by omega) (by omega)
    have eo : onesC (X : Int) = ((pcl X 64 : Nat) : Int) := rfl
    rw [eo] at HC
    have hp := pcl_le X 64
    by_cases hk1 : ((pcl X 64 : Nat) : Int) ≤ k
    · have HS := Lib.hid (sel_out X k (Or.inr hk1))
      have HD := Lib.hid HC
      clear HC eo hk
      go_enter Tryd.func9, Tryd.ntmps9
      go_wp2_with (go_at_call 5; refine (HD.out).mono ?_; rintro e w' ⟨rfl, rfl⟩)
      go_ret
      exact ⟨ret_int HS.out.symm, rfl⟩
    · have hkp : k < ((pcl X 64 : Nat) : Int) := by omega
      have HKP := Lib.hid hkp
      have hk64 : k < 64 := by omega
      obtain ⟨p, hpp⟩ : ∃ p : Int, ((pcl X 64 : Nat) : Int) = p := ⟨_, rfl⟩
      rw [hpp] at HC hkp
      have hkb : decide (k < 0) = false := by simp; omega
      have hkb2 : decide (p ≤ k) = false := by simp; omega
      have HD := Lib.hid HC
      clear HC eo hk hk1 hp hpp
      go_enter Tryd.func9, Tryd.ntmps9
      go_wp2_with (go_at_call 5; refine (HD.out).mono ?_; rintro e w' ⟨rfl, rfl⟩)
      go_loop [0, 14] (fun v i => ∃ (Y : Nat) (j : Int), 0 ≤ j ∧ j ≤ k ∧ i = .int .i64 j ∧ v = .int .u64 (Y : Int) ∧ Y < 18446744073709551616 ∧ Hid (selZ Y (k - j) = selZ X k) ∧ Hid (k - j < ((pcl Y 64 : Nat) : Int))) (fun _ i => (k - intOf i).toNat)
      case atStart => exact ⟨X, 0, by omega, hk0, rfl, rfl, h, Lib.hid (by rw [Int.sub_zero]), Lib.hid (by rw [Int.sub_zero]; exact HKP.out)⟩
      case round =>
        obtain ⟨Y, j, hj0, hjk, rfl, rfl, hY, HY, HR⟩ := hrel
        clear hkb hkb2 hkp
        by_cases hlt : j < k
        · have hr := HR.out
          have hY0 : Y ≠ 0 := by
            intro h0; subst h0
            have : pcl 0 64 = 0 := by decide
            omega
          obtain ⟨t, q, e⟩ := low_form Y hY0
          have hc := clr_eq t q
          have hpc := pcl_clr t q 64
          rw [if_pos (low_lt (e ▸ hY)).1] at hpc
          have hsc := sel_clr t q (k - j - 1) (by omega)
          rw [← e] at hc hpc hsc
          obtain ⟨Z, hZ⟩ : ∃ Z, 2 ^ (t + 1) * q = Z := ⟨_, rfl⟩
          rw [hZ] at hc hpc hsc
          have hZl : Z < 18446744073709551616 := by
            rw [← hc]; exact Nat.lt_of_le_of_lt Nat.and_le_left hY
          have hz : bits .and .u64 (Y : Int) ((Y : Int) - 1) = (Z : Int) := by
            rw [show (Y : Int) - 1 = ((Y - 1 : Nat) : Int) by omega, u64_and_nat _ _ hY (by omega), hc]
          have HN : Hid (selZ Z (k - (j + 1)) = selZ X k) := Lib.hid (by rw [← HY.out, show k - (j + 1) = k - j - 1 by omega, hsc, show k - j - 1 + 1 = k - j by omega])
          have hr2 : Hid (k - (j + 1) < ((pcl Z 64 : Nat) : Int)) := Lib.hid (by omega)
          have hY1 : 1 ≤ (Y : Int) := by omega
          clear e hc hpc hsc hZ hY0 hr
          go_wp2
          go_round
          case rel => exact ⟨Z, j + 1, by omega, by omega, rfl, rfl, hZl, HN, hr2⟩
          case measure => simp [intOf]; omega
        · have hjk2 : j = k := by omega
          subst hjk2
          have HL := Lib.hid (lowest_any Y w hY ht)
          have HE : Hid (selZ Y 0 = selZ X j) := Lib.hid (by rw [← HY.out, Int.sub_self])
          go_wp2_with (go_at_call 7; refine (HL.out).mono ?_; rintro e w' ⟨rfl, rfl⟩)
          go_ret
          exact ⟨ret_int HE.out, rfl⟩
theorem rones_any (a : Int) (w : World) (ha : 0 ≤ a ∧ a ≤ 18446744073709551615) : Calls Tryd.prog 6 #[.int .u64 a] w fun e w' => e = .returned (.int .i64 (onesC a)) ∧ w = w' := by
  go_enter Tryd.func6, Tryd.ntmps6
  go_wp2
  go_loop [3, 4] (fun n i => ∃ t : Nat, t ≤ 64 ∧ i = .int .i64 t ∧ n = .int .i64 ((pcl a.toNat t : Nat) : Int)) (fun _ i => (64 - intOf i).toNat)
  case atStart => exact ⟨0, by omega, rfl, rfl⟩
  case round =>
    obtain ⟨t, ht, rfl, rfl⟩ := hrel
    by_cases hlt : t < 64
    · have H := Lib.hid (pcl_snoc a.toNat t)
      have r1 := pcl_le a.toNat t
      have r3 := bitZ_range a t
      have hb : Hid (bitZ a t = ((a.toNat / 2 ^ t % 2 : Nat) : Int)) := Lib.hid rfl
      go_wp2_with (go_at_call 16; refine (bit_any _ _ _ ha (by omega) (by omega)).mono ?_; rintro e w' ⟨rfl, rfl⟩)
      go_round
      case rel => exact ⟨t + 1, by omega, by go_num, val_int (by rw [H.out, hb.out]; omega)⟩
      case measure => simp [intOf]; omega
    · have : t = 64 := by omega
      subst this
      go_wp2
      go_ret
      exact ⟨rfl, rfl⟩
theorem rselect_any (X : Nat) (k : Int) (w : World) (h : X < 18446744073709551616) :
    Calls Tryd.prog 8 #[.int .u64 (X : Int), .int .i64 k] w fun e w' => e = .returned (.int .i64 (selZ X k)) ∧ w = w' := by
  go_enter Tryd.func8, Tryd.ntmps8
  go_wp2
  go_loop [5, 6] (fun b i => ∃ t : Nat, t ≤ 64 ∧ i = .int .i64 t ∧ b = .int .i64 ((pcl X t : Nat) : Int) ∧ Hid (selZ X k = scan X k (64 - t) t)) (fun _ i => (64 - intOf i).toNat)
  case atStart => exact ⟨0, by omega, rfl, rfl, Lib.hid rfl⟩
  case round =>
    obtain ⟨t, ht, rfl, rfl, HS⟩ := hrel
    by_cases hlt : t < 64
    · have r1 := pcl_le X t
      have hsn := pcl_snoc X t
      obtain ⟨f, hf⟩ : ∃ f, 64 - t = f + 1 := ⟨63 - t, by omega⟩
      have hf2 : 64 - (t + 1) = f := by omega
      obtain ⟨p, hp⟩ : ∃ p, pcl X t = p := ⟨_, rfl⟩
      rcases Nat.mod_two_eq_zero_or_one (X / 2 ^ t) with hb | hb
      · have hz : bitZ (X : Int) (t : Int) = 0 := by unfold bitZ; rw [Int.toNat_natCast, Int.toNat_natCast, hb]; rfl
        have HN : Hid (selZ X k = scan X k (64 - (t + 1)) (t + 1)) := Lib.hid (by rw [HS.out, hf, hf2, scan_step _ _ _ _ (by omega)])
        have HP : Hid (pcl X (t + 1) = p) := Lib.hid (by rw [hsn, hb, hp]; rfl)
        rw [hp] at r1 ⊢
        clear hb hsn hf hf2 hp
        go_wp2_with (go_at_call 16; refine (bit_any _ _ _ (by omega) (by omega) (by omega)).mono ?_; rintro e w' ⟨rfl, rfl⟩)
        go_round
        case rel => exact ⟨t + 1, by omega, by go_num, val_int (by rw [HP.out]), HN⟩
        case measure => simp [intOf]; omega
      · have hz : bitZ (X : Int) (t : Int) = 1 := by unfold bitZ; rw [Int.toNat_natCast, Int.toNat_natCast, hb]; rfl
        by_cases hpk : (p : Int) = k
        · have HN : Hid (selZ X k = t) := Lib.hid (by rw [HS.out, hf, scan_hit _ _ _ _ hb (by rw [hp]; exact hpk)])
          have hpk' : ((p : Int) == k) = true := by simpa using hpk
          rw [hp] at r1 ⊢
          clear hb hsn hf hf2 hp hpk
          go_wp2_with (go_at_call 16; refine (bit_any _ _ _ (by omega) (by omega) (by omega)).mono ?_; rintro e w' ⟨rfl, rfl⟩)
          go_ret
          exact ⟨ret_int HN.out.symm, rfl⟩
        · have HN : Hid (selZ X k = scan X k (64 - (t + 1)) (t + 1)) := Lib.hid (by rw [HS.out, hf, hf2, scan_step2 _ _ _ _ (by rw [hp]; exact hpk)])
          have HP : Hid (pcl X (t + 1) = p + 1) := Lib.hid (by rw [hsn, hb, hp])
          have hpk' : ((p : Int) == k) = false := by simpa using hpk
          rw [hp] at r1 ⊢
          clear hb hsn hf hf2 hp hpk
          go_wp2_with (go_at_call 16; refine (bit_any _ _ _ (by omega) (by omega) (by omega)).mono ?_; rintro e w' ⟨rfl, rfl⟩)
          go_round
          case rel => exact ⟨t + 1, by omega, by go_num, val_int (by rw [HP.out]; omega), HN⟩
          case measure => simp [intOf]; omega
    · have : t = 64 := by omega
      subst this
      go_wp2
      go_ret
      exact ⟨ret_int (by rw [HS.out]; rfl), rfl⟩

/-! ### the walk -/
theorem walk (W : World) (tb : Tab W) (a0 : Int) (w0 : (Lit.int .u64 a0).wf = true) (a1 : Int) (w1 : (Lit.int .i64 a1).wf = true) :
    Calls Tryd.prog 3 #[.int .u64 a0, .int .i64 a1] W fun e W' => e = .returned (.bool true) ∧ Below W.heap.size W W' := by
  have b0 := wf_u64 w0
  obtain ⟨X, rfl⟩ := Int.eq_ofNat_of_zero_le b0.1
  have hX : X < 18446744073709551616 := by omega
  have HT := Lib.hid tb
  clear w0 w1 b0 tb
  go_enter Tryd.func3, Tryd.ntmps3
  go_wp2_with (first
    | (go_at_call 4; refine (awake_any _).mono ?_; rintro e w' ⟨rfl, n, rfl⟩)
    | (go_at_call 5; refine (wones_any _ _ (by omega) (by omega)).mono ?_; rintro e w' ⟨rfl, rfl⟩)
    | (go_at_call 6; refine (rones_any _ _ (by omega)).mono ?_; rintro e w' ⟨rfl, rfl⟩)
    | (go_at_call 7; refine (lowest_any _ _ hX (Lib.hid (Tab.drewN HT.out n))).mono ?_; rintro e w' ⟨rfl, rfl⟩)
    | (go_at_call 9; refine (select_any _ _ _ hX (Lib.hid (Tab.drewN HT.out n))).mono ?_; rintro e w' ⟨rfl, rfl⟩)
    | (go_at_call 8; refine (rselect_any _ _ _ hX).mono ?_; rintro e w' ⟨rfl, rfl⟩))
  go_ret
  exact ⟨rfl, below_draws (Below.refl _ _) _⟩

/-! ### the frame -/
theorem own : ownKnob Tryd.prog.godebug = none := by kernel_rfl
set_option maxRecDepth 100000 in
theorem calls {H : Type} {enc : TypeId × Value → H} (W : World) (base : Nat) (args : Array Value) (ds : List (DataW H)) (p : List MemPlace)
    (hval0 : ∀ (j : Nat) t v, Tryd.f3.params[j]? = some t → args[j]? = some v → Value.okWide Tryd.prog W .any base t v)
    (hA : DataW.TrodAll enc Tryd.prog W 0 (fun _ => true) true Tryd.f3.params.toList args.toList ds p) (_ : W.noneFrozen p)
    (hsz : (DataW.weightsEach Tryd.prog Tryd.f3.params.toList ds).all (· ≤ reachBytes) = true) (hL : laidMetH Tryd.prog Rows.wordBitsRow.laid W) :
    Calls Tryd.prog 3 args W fun e W' => e = .returned (.bool true) ∧ Below W.heap.size W W' := by
  have hval : ∀ (j : Nat) t v, Tryd.f3.params[j]? = some t → args[j]? = some v → Value.okWide Tryd.prog W .any base t v := hval0
  clear hval0
  rw [Tryd.params3] at hA hval hsz
  obtain ⟨v0, vs0, d0, ds0, p0, q0, hargs, rfl, rfl, h0, r'0⟩ := trodAll_cons hA
  obtain ⟨v1, vs1, d1, ds1, p1, q1, rfl, rfl, rfl, h1, r'1⟩ := trodAll_cons r'0
  obtain ⟨rfl, rfl, rfl⟩ := trodAll_nil r'1
  obtain rfl : args = #[v0, v1] := by cases args; simp_all
  obtain ⟨a0, rfl, rfl, rfl, w0⟩ := open_int Tryd.underlying22 (hval 0 22 v0 rfl rfl) h0
  obtain ⟨a1, rfl, rfl, rfl, w1⟩ := open_int Tryd.underlying3 (hval 1 3 v1 rfl rfl) h1
  exact walk (W := W) (Base.tabs hL) a0 w0 a1 w1
theorem laid_met (os : Os) : laidMet Tryd.prog Rows.wordBitsRow.laid ((Base.laidWorld os).forCall (fun _ _ => 0) ⟨#[], #[.int .u64 0, .int .i64 0], []⟩).memory := laidMet_of_run' 8 (by kernel_rfl) (by kernel_rfl)
theorem reads (os : Os) {H : Type} (enc : TypeId × Value → H) : ∃ places, DataW.whole enc Tryd.prog ((Base.laidWorld os).forCall (fun _ _ => 0) ⟨#[], #[.int .u64 0, .int .i64 0], []⟩).memory Tryd.f3.params.toList Rows.wordBitsSpec.vars false #[(Value.int .u64 0), (Value.int .i64 0)].toList 8 = some ([.lit (.int .u64 0), .lit (.int .i64 0)], [], places) := ⟨[], by kernel_rfl⟩
set_option maxRecDepth 100000 in
theorem lifted (os : Os) (started : os.Started) (H : Type) (enc : TypeId × Value → H) (F : Stop.Interp) :
    ReturnsInHanded {} Tryd.checked os 3 .any ((OpenSpec.ofChange Rows.wordBitsSpec).preRow enc Tryd.prog Tryd.f3 Rows.wordBitsRow.domain false Rows.wordBitsRow.laid) (((OpenSpec.ofChange Rows.wordBitsSpec).at F).post enc Tryd.prog Tryd.f3 false true false false) := by
  obtain ⟨places, hx⟩ := reads os enc
  exact laid_lifted (C := Tryd.checked) (s := Rows.wordBitsSpec) (b := 4) own (by kernel_rfl) Tryd.func3 (by kernel_rfl) (by kernel_rfl) rfl Tryd.underlying4 rfl
    (fun ds h => by match ds, h with | [_, _], _ => rfl) calls os started F
    (witness_row_at (enc := enc) (C := Tryd.checked) false (Base.laidWorld os) #[.int .u64 0, .int .i64 0] rfl (by kernel_rfl) (by kernel_rfl) (by kernel_rfl)
      (OpenSpec.preRow_of_cond 8 hx (by kernel_rfl) (fun k hk => by cases hk) (by kernel_rfl) (laid_met os)))
theorem said : Rows.WordBitsSaid :=
  OpenClaim.holds_of_cond 3 Tryd.f3 rfl rfl rfl rfl rfl rfl rfl ⟨rfl, rfl, rfl, rfl, rfl⟩ rfl rfl rfl rfl rfl (by kernel_rfl) Tryd.func3 (by kernel_rfl)
    (of_decide_eq_true (by kernel_rfl)) (by unfold Func.isWrapper; first | (rw [if_pos (by decide +kernel)]; kernel_rfl) | (rw [if_neg (by decide +kernel)]; exact ⟨rfl, rfl⟩))
    (fun os started H enc _ F => by rw [OpenClaim.pre_eq_preRow]; exact lifted os started H enc F)
theorem plain (f : FuncId) (fn : Func) (hf : Tryd.pinned.checked.prog.funcNamed "bedrock/bedrocklaw01.WordBits" = some f) (hfn : Tryd.pinned.checked.prog.funcs[f]? = some fn) :
    false = Tryd.pinned.checked.prog.looks [] ∧ ∀ (j : Nat) t, fn.params[j]? = some t → Tryd.pinned.checked.prog.wantsStandIn t = false := by
  obtain rfl : f = 3 := Option.some.inj ((show Tryd.prog.funcNamed "bedrock/bedrocklaw01.WordBits" = some 3 by kernel_rfl).symm.trans hf) |>.symm
  obtain rfl : fn = Tryd.f3 := (Option.some.inj (Tryd.func3.symm.trans hfn)).symm
  have hall : Tryd.f3.params.toList.all (fun t => !Tryd.prog.wantsStandIn t) = true := by kernel_rfl
  refine ⟨by kernel_rfl, fun j t ht => ?_⟩
  have := List.all_eq_true.1 hall t (by simpa using Array.mem_of_getElem? ht)
  exact (show Tryd.prog.wantsStandIn t = false by simpa using this)
/-- ████ THE STATEMENT: THE CARD ████ -/
theorem proved : Rows.WordBitsCardSaid :=
  Claim7.holds_tied_plain_at .later [] _ _ _ _ said (fun _ h => by cases h) (by kernel_rfl) (fun _ h => by cases h) wordBits_row_tie rfl ⟨rfl, rfl⟩ (by kernel_rfl) rfl plain (by kernel_rfl)
#print axioms proved
end Go.Proofs.YtgfiddjlbjlolaaDoor.wordBits
