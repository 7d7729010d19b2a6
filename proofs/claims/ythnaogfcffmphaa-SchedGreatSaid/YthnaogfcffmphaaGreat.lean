/-
  PROVED: the law SchedGreat answers true for every input, and each argument reads behind the call as before (Rows.SchedGreatSaid). No condition.
-/
import Derived.Test.YthnaogfcffmphaaRows
import Derived.Test.YthnaogfcffmphaaLaw
import Derived.Test.YthnaogfcffmphaaArgs
import Derived.Test.YthnaogfcffmphaaSGreat0
namespace Go.Proofs.Ythnaogfcffmphaa.schedGreat
open Go.ChangeShapes Go.WideShapes Go.ChangeAt Go.RowKit Go.Proofs.Ythnaogfcffmphaa.Law Go.Proofs.Ythnaogfcffmphaa.Args
set_option linter.unusedVariables false
set_option linter.unusedSimpArgs false
open Go.Proofs.Ythnaogfcffmphaa.Sched Go.Proofs.Ythnaogfcffmphaa.Mem Go.Proofs.Ythnaogfcffmphaa.Own
structure PRow (W wr : World) (A : Option Addr) (n B : Nat) (m : Nat) : Prop where
  row : IntsAt .u64 wr B A (rowZ n m)
  hB : B ≤ wr.heap.size
  bel : Below W.heap.size W wr
structure PNext (W wi wr : World) (A : Option Addr) (n B m : Nat) (v : Value) (k : Nat) : Prop where
  row : IntsAt .u64 wi B A (rowZ n m)
  hB : B ≤ wi.heap.size
  own : OwnInts .u64 51 wr wi.heap.size v (rowZ (n + 1) k)
  bel : Below wi.heap.size wi wr
  old : Below W.heap.size W wi
set_option maxRecDepth 100000 in
set_option maxHeartbeats 4000000 in
theorem walk (W : World) (a0 : Int) (w0 : (Lit.int .u8 a0).wf = true) (a1 : Int) (w1 : (Lit.int .u8 a1).wf = true) :
    Calls Try.prog 8 #[.int .u8 a0, .int .u8 a1] W fun e W' => e = .returned (.bool true) ∧ Below W.heap.size W W' := by
  obtain ⟨p1, p2⟩ : 0 ≤ a0 ∧ a0 ≤ 255 := by simpa [Lit.wf, IntKind.min, IntKind.max, IntKind.bits, IntKind.signed] using w0
  obtain ⟨p3, p4⟩ : 0 ≤ a1 ∧ a1 ≤ 255 := by simpa [Lit.wf, IntKind.min, IntKind.max, IntKind.bits, IntKind.signed] using w1
  clear w0 w1
  obtain ⟨i0, hi', hz0, hz1, hz2⟩ := info_parts info64
  have HI := Lib.hid hi'
  have HZ0 := Lib.hid hz0
  have HZ1 := Lib.hid hz1
  have HZ2 := Lib.hid hz2
  clear hi' hz0 hz1 hz2
  obtain ⟨x, hx⟩ : ∃ x : Nat, a0 % 60 = (x : Int) := ⟨(a0 % 60).toNat, by omega⟩
  obtain ⟨y, hy⟩ : ∃ y : Nat, a1 % 60 = (y : Int) := ⟨(a1 % 60).toNat, by omega⟩
  have hxt : a0.tmod 60 = (x : Int) := by rw [Int.tmod_eq_emod_of_nonneg p1]; exact hx
  have hyt : a1.tmod 60 = (y : Int) := by rw [Int.tmod_eq_emod_of_nonneg p3]; exact hy
  have hx6 : x ≤ 59 := by omega
  have hy6 : y ≤ 59 := by omega
  have hwx : IntKind.i64.wrap (x : Int) = (x : Int) := IntWalk.i64_in _ ⟨by omega, by omega⟩
  have hwy : IntKind.i64.wrap (y : Int) = (y : Int) := IntWalk.i64_in _ ⟨by omega, by omega⟩
  have HCNT : Hid (∀ W : World, Calls Try.prog 27 #[.slice (some ⟨W.heap.size, 0, none⟩) 2 2] (W.alloc (.cells #[.int .i64 (x : Int), .int .i64 (y : Int)] 3)) fun e w' => e = .returned (cntRes [(x : Int), (y : Int)]) ∧ ∃ q, w' = (W.alloc (.cells #[.int .i64 (x : Int), .int .i64 (y : Int)] 3)).drewN q) := Lib.hid fun W =>
    count_any (some ⟨W.heap.size, 0, none⟩) 2 2 (W.heap.size + 1) [(x : Int), (y : Int)] (W.alloc (.cells #[.int .i64 (x : Int), .int .i64 (y : Int)] 3)) (by decide) rfl (Lib.hid (fun z hz => by
      simp only [List.mem_cons, List.not_mem_nil, or_false] at hz
      rcases hz with rfl | rfl <;> omega)) (Lib.hid (IntsAt.new .i64 W 3 (0, 0) [(x : Int), (y : Int)]))
  obtain ⟨t, ht⟩ : ∃ t, bin (x + y) x = t := ⟨_, rfl⟩
  have HT := Lib.hid ht
  obtain ⟨c, b, HCR, HCB⟩ : ∃ (c : Nat) (b : Bool), Hid (cntRes [(x : Int), (y : Int)] = .tuple #[.int .u64 (c : Int), .bool b]) ∧ Hid ((t ≤ most ∧ c = t ∧ b = true) ∨ (most < t ∧ c = 4611686018427387904 ∧ b = false)) := by
    by_cases h : t ≤ most
    · exact ⟨t, true, Lib.hid (cntRes_of (by rw [cnt2, ht]) h), Lib.hid (.inl ⟨h, rfl, rfl⟩)⟩
    · exact ⟨4611686018427387904, false, Lib.hid (cntRes_no (by rw [cnt2, ht]; omega)), Lib.hid (.inr ⟨by omega, rfl, rfl⟩)⟩
  rw [HCR.out] at HCNT
  obtain ⟨n, hn⟩ : ∃ n, x + y = n := ⟨_, rfl⟩
  have hni : (x : Int) + (y : Int) = (n : Int) := by omega
  have hn118 : n ≤ 118 := by omega
  have HNN := Lib.hid hn
  have hxn : (x : Int) ≤ (n : Int) := by omega
  clear ht hn
  go_enter Try.func8, Try.ntmps8
  go_wp2_with (first
    | (go_at_call 11; go_must (refine (awake_any _).mono ?_); rintro e wa ⟨rfl, hba⟩; have HBA := Lib.hid hba; clear hba)
    | (go_at_call 27; go_must (refine (HCNT.out wa).mono ?_); rintro e wb ⟨rfl, q, rfl⟩))
  have hbel : Below W.heap.size W ((wa.alloc (.cells #[.int .i64 (x : Int), .int .i64 (y : Int)] 3)).drewN q) := below_draws (HBA.out.alloc HBA.out.size _) q
  have HP0 : Hid (PRow W (((wa.alloc (.cells #[.int .i64 (x : Int), .int .i64 (y : Int)] 3)).drewN q).alloc (.cells #[.int .u64 1] 51)) (some ⟨wa.heap.size + 1, 0, none⟩) 0 (wa.heap.size + 2) 1) := Lib.hid ⟨by
      rw [rowZ_one]
      have := IntsAt.new .u64 ((wa.alloc (.cells #[.int .i64 (x : Int), .int .i64 (y : Int)] 3)).drewN q) 51 (0, 0) [1]
      simpa using this, by simp, hbel.alloc hbel.size _⟩
  clear hbel
  obtain ⟨g0, hg0⟩ : ∃ g0, wa.heap.size + 1 = g0 := ⟨_, rfl⟩
  rw [hg0] at HP0 ⊢
  generalize ((wa.alloc (.cells #[.int .i64 (x : Int), .int .i64 (y : Int)] 3)).drewN q).alloc (.cells #[.int .u64 1] 51) = wc at *
  clear hg0 HCNT
  go_loopw [9, 10] (fun u i wr => ∃ (j : Nat) (A : Option Addr) (cc : Nat), 1 ≤ j ∧ j ≤ n + 1 ∧ u = .slice A j cc ∧ i = .int .i64 (j : Int) ∧ Hid (∃ B, PRow W wr A (j - 1) B j)) (fun _ i _ => n + 1 - (intOf i).toNat)
  case atStart => exact ⟨1, _, _, by omega, by omega, rfl, rfl, Lib.hid ⟨_, HP0.out⟩⟩
  case round =>
    obtain ⟨j, A, cc, hj1, hj2, rfl, rfl, HO⟩ := hrel
    obtain ⟨B, hP⟩ := HO.out
    have HP := Lib.hid hP
    clear HO hP
    by_cases hjn : j ≤ n
    · have hji : (j : Int) ≤ (n : Int) := by omega
      have hj63 : j ≤ 9223372036854775807 := by omega
      obtain ⟨wi, hwi⟩ : ∃ wi : World, wi = wr := ⟨_, rfl⟩
      rw [← hwi] at HP
      rw [← hwi]
      have HWI := Lib.hid hwi
      clear hwi
      have HN0 : Hid (PNext W wi (wi.alloc (.cells #[.int .u64 1] 51)) A (j - 1) B j (.slice (some ⟨wi.heap.size, 0, none⟩) 1 1) (0 + 1)) := Lib.hid ⟨HP.out.row, HP.out.hB, by rw [rowZ_one]; exact own_lit1 wi _ 1 (Nat.le_refl _), (Below.refl _ _).alloc (Nat.le_refl _) _, HP.out.bel⟩
      go_wp2
      go_loopw [11, 12] (fun v i wx => ∃ kk : Nat, kk + 1 ≤ j ∧ i = .int .i64 ((kk : Int) + 1) ∧ Hid (PNext W wi wx A (j - 1) B j v (kk + 1))) (fun _ i _ => j - (intOf i).toNat)
      case atStart => exact ⟨0, by omega, by go_num, HN0⟩
      case round =>
        obtain ⟨kk, hkk, rfl, HN⟩ := hrel
        obtain ⟨A2, c2, hv2, _⟩ := HN.out.own.form
        rw [rowZ_len] at hv2
        subst hv2
        by_cases hlt : kk + 1 < j
        · have hlti : (kk : Int) + 1 < (j : Int) := by omega
          have hk0 : (0 : Int) ≤ (kk : Int) := by omega
          have hk1 : (0 : Int) ≤ (kk : Int) + 1 := by omega
          have hkj : (kk : Int) < (j : Int) := by omega
          obtain ⟨ad, hA, hadb, hc0⟩ := HN.out.row kk (by rw [rowZ_len]; omega)
          obtain ⟨ad', hA', hadb', hc1⟩ := HN.out.row (kk + 1) (by rw [rowZ_len]; omega)
          rw [hA] at hA'
          injection hA' with hA'
          subst hA'
          subst hA
          rw [rowZ_at (by omega)] at hc0 hc1
          have d0 := (HN.out.bel.cell (p := ad.add kk) (by rw [add_block]; have := HN.out.hB; omega)).trans hc0
          have d1 := (HN.out.bel.cell (p := ad.add (kk + 1)) (by rw [add_block]; have := HN.out.hB; omega)).trans hc1
          rw [show ad.add (kk + 1) = ⟨ad.block, ad.off + (kk + 1), none⟩ from if_neg (by omega)] at d1
          have h1 := sat_le (j - 1) kk
          have h2 := sat_le (j - 1) (kk + 1)
          have hst := sat_step (j - 1) kk
          rw [show j - 1 + 1 = j by omega] at hst
          obtain ⟨va, hva⟩ : ∃ va, sat (j - 1) kk = va := ⟨_, rfl⟩
          obtain ⟨vb, hvb⟩ : ∃ vb, sat (j - 1) (kk + 1) = vb := ⟨_, rfl⟩
          rw [hva] at d0 h1 hst
          rw [hvb] at d1 h2 hst
          obtain ⟨sm, hsm⟩ : ∃ sm, va + vb = sm := ⟨_, rfl⟩
          have hwsm : IntKind.u64.wrap ((va : Int) + (vb : Int)) = (sm : Int) := by rw [show (va : Int) + (vb : Int) = (sm : Int) by omega]; exact IntWalk.u64_in _ ⟨by omega, by omega⟩
          obtain ⟨tt, htt⟩ : ∃ tt, min sm (most + 1) = tt := ⟨_, rfl⟩
          have hmin : min (sm : Int) 4611686018427387905 = (tt : Int) := by unfold most at htt; omega
          rw [hsm, htt] at hst
          have HST := Lib.hid hst
          have hw1 : IntKind.i64.wrap ((kk : Int) + 1) = (kk : Int) + 1 := IntWalk.i64_in _ ⟨by omega, by omega⟩
          have hw2 : IntKind.i64.wrap (kk : Int) = (kk : Int) := IntWalk.i64_in _ ⟨by omega, by omega⟩
          have hw3 : IntKind.i64.wrap ((kk : Int) + 1 - 1) = (kk : Int) := by rw [show (kk : Int) + 1 - 1 = (kk : Int) by omega]; exact hw2
          clear h1 h2 hst hva hvb hsm htt hc0 hc1
          have hb0 : (ad.add kk).block < wr.heap.size := by rw [add_block]; have := HN.out.hB; have := HN.out.bel.size; omega
          have hb1 : ad.block < wr.heap.size := by have := HN.out.hB; have := HN.out.bel.size; omega
          have hnb : ∀ x, x < wi.heap.size → some x ≠ (Value.slice A2 (kk + 1) c2).ownBlock := fun x hx e => by have := (HN.out.own.lt x e.symm).1; omega
          have hn0 := hnb (ad.add kk).block (by rw [add_block]; have := HN.out.hB; omega)
          have hn1 := hnb ad.block (by have := HN.out.hB; omega)
          have HN0b := Lib.hid hn0
          have HN1b := Lib.hid hn1
          have HB0b := Lib.hid hb0
          have HB1b := Lib.hid hb1
          have hrow := HN.out.own
          unfold OwnInts at hrow
          rw [rowZ_len] at hrow
          have HROW := Lib.hid hrow
          have hwis := HN.out.bel.size
          clear hb0 hb1 hnb hn0 hn1 hrow
          go_wp2_with fail
          go_region_held3 (fun w' => w'.cell? (ad.add kk) = some (.int .u64 (va : Int)) ∧ w'.cell? ⟨ad.block, ad.off + (kk + 1), none⟩ = some (.int .u64 (vb : Int)))
            (first
              | go_keep
              | (go_split_ands
                 refine ⟨?_, ?_⟩
                 · (rw [hgrow.cell_far (ad.add kk) (by simp; have := HB0b.out; omega) HN0b.out]; assumption)
                 · (rw [hgrow.cell_far ⟨ad.block, ad.off + (kk + 1), none⟩ (by simp; have := HB1b.out; omega) HN1b.out]; assumption)))
            ((refine step_append_lies _ (by rfl) _ _ _ (by rfl) wi.heap.size 51 i0 _ 1 8 Try.underlying56 HI.out HZ0.out HZ1.out HZ2.out rfl (by omega) (.slice A2 (kk + 1) c2) (kk + 1) ((rowZ (j - 1 + 1) (kk + 1)).map (Value.int .u64)) (by rfl) ((World.ownsRow.alloc HROW.out _).drew)
                ⟨wr.heap.size, 0, none⟩ 1 1 [.int .u64 (tt : Int)] (by rfl) (by rfl) (World.news_of_block (cs := #[.int .u64 (tt : Int)]) (t := 51) (fr := (0, 0)) (heap_alloc_new wr _)) (by simp [Value.oneCell'])
                (by omega) (by unfold maxLen; omega) (by omega) (by simp; omega) (wr.heap.size + 1) (by simp) ?_; intro gg cap w2 hown2 hgrow hat hlt3))
          have HNX : Hid (PNext W wi w2 (some ad) (j - 1) B j (.slice (some ⟨gg, 0, none⟩) (kk + 1 + 1) cap) (kk + 1 + 1)) := Lib.hid (by
            refine ⟨HN.out.row, HN.out.hB, ?_, ?_, HN.out.old⟩
            · unfold OwnInts
              rw [rowZ_len, rowZ_snoc, List.map_append, show sat (j - 1 + 1) (kk + 1) = tt by rw [show j - 1 + 1 = j by omega]; exact HST.out.symm]
              exact hown2
            · refine HN.out.bel.trans ((((Below.refl wi.heap.size wr).alloc HN.out.bel.size _).drew).grown hgrow (by simp; omega) (fun g hg => (HN.out.own.lt g hg).1)))
          clear hown2 hgrow hat hlt3
          go_wp2
          go_roundw
          case rel => exact ⟨kk + 1, by omega, by go_num, HNX⟩
          case measure => simp [intOf]; omega
        · have hkj : kk + 1 = j := by omega
          have hkji : (kk : Int) + 1 = (j : Int) := by omega
          have HROW : Hid (OwnInts .u64 51 wr wi.heap.size (.slice A2 (kk + 1) c2) (rowZ j j)) := Lib.hid (by have := HN.out.own; rw [show j - 1 + 1 = j by omega, hkj] at this; rw [hkj]; exact this)
          rw [hkj] at HROW ⊢
          rw [hkji]
          have HBB := Lib.hid HN.out.bel
          have HOLD := Lib.hid HN.out.old
          have hwis := HN.out.bel.size
          clear HN hkj hkji
          go_wp2_with (at_builtin; go_must (refine wpList_app (by simp [Region.wanted, yielded]) (.tmp 57) (.tmp 58) 56 rfl (v := .slice A2 j c2) (B := wr.heap.size + 1) (c := 1) (A := some ⟨wr.heap.size, 0, none⟩) (zs := [1]) Try.underlying56 HI.out HZ0.out HZ1.out HZ2.out rfl rfl (HROW.out.alloc _) rfl (IntsAt.new .u64 wr 51 (0, 0) [1]) rfl (by rw [rowZ_len]; simp [maxLen]; omega) (by rw [rowZ_len]; omega) (by simp; omega) ?_); intro v2 w2 ho2 hg2 ha2; have hb2 := HBB.out.trans (((Below.refl wi.heap.size wr).alloc hwis _).trans ((HROW.out.alloc _).grownBelow hg2 (by simp; omega))); have HQ := Lib.hid (And.intro ho2 hb2); clear ho2 hg2 ha2 hb2)
          have hq := HQ.out.1
          rw [show rowZ j j ++ [1] = rowZ j (j + 1) by rw [rowZ_snoc, sat_self]; rfl] at hq
          obtain ⟨A3, c3, hv3, _, _, _, hi3⟩ := hq.form
          rw [rowZ_len] at hv3
          have HPN : Hid (∃ B, PRow W w2 A3 (j + 1 - 1) B (j + 1)) := Lib.hid ⟨w2.heap.size, hi3, Nat.le_refl _, HOLD.out.trans (HQ.out.2.mono HOLD.out.size)⟩
          subst hv3
          clear hq hi3 HQ
          go_wp2
          go_roundw
          case rel => exact ⟨j + 1, A3, c3, by omega, by omega, rfl, by go_num, HPN⟩
          case measure => simp [intOf]; omega
    · have hj2 : j = n + 1 := by omega
      subst hj2
      obtain ⟨ad, hA, hadb, hc0⟩ := HP.out.row x (by rw [rowZ_len]; omega)
      subst hA
      rw [rowZ_at (by omega), Nat.add_sub_cancel] at hc0
      have HBW := Lib.hid HP.out.bel
      obtain ⟨v, hv⟩ : ∃ v, sat n x = v := ⟨_, rfl⟩
      rw [hv] at hc0
      have hvt : v = min t (most + 1) := by rw [← hv, ← HT.out, HNN.out]; rfl
      have hx0 : (0 : Int) ≤ (x : Int) := by omega
      have hxi : (x : Int) < (n : Int) + 1 := by omega
      rcases HCB.out with ⟨h1, h2, h3⟩ | ⟨h1, h2, h3⟩
      · have hvc : v = c := by unfold most at h1 hvt; omega
        have hd : decide (4611686018427387904 < (c : Int)) = false := by unfold most at h1; simp; omega
        subst hvc h3
        clear h1 h2 hvt hv HP
        go_wp2
        go_ret
        exact ⟨rfl, HBW.out⟩
      · have hvc : v = 4611686018427387905 := by unfold most at h1 hvt; omega
        subst hvc h2 h3
        clear h1 hvt hv HP
        go_wp2
        go_ret
        exact ⟨rfl, HBW.out⟩

/-! ### the frame -/
theorem own : ownKnob Try.prog.godebug = none := by kernel_rfl
set_option maxRecDepth 100000 in
theorem calls {H : Type} {enc : TypeId × Value → H} (W : World) (base : Nat) (args : Array Value) (ds : List (DataW H)) (p : List MemPlace)
    (hval0 : ∀ (j : Nat) t v, Try.f8.params[j]? = some t → args[j]? = some v → Value.okWide Try.prog W .any base t v)
    (hA : DataW.TrodAll enc Try.prog W 0 (fun _ => true) true Try.f8.params.toList args.toList ds p) (_ : W.noneFrozen p)
    (hsz : (DataW.weightsEach Try.prog Try.f8.params.toList ds).all (· ≤ reachBytes) = true) :
    Calls Try.prog 8 args W fun e W' => e = .returned (.bool true) ∧ Below W.heap.size W W' := by
  have hval : ∀ (j : Nat) t v, Try.f8.params[j]? = some t → args[j]? = some v → Value.okWide Try.prog W .any base t v := hval0
  clear hval0
  rw [Try.params8] at hA hval hsz
  obtain ⟨v0, vs0, d0, ds0, p0, q0, hargs, rfl, rfl, h0, r'0⟩ := trodAll_cons hA
  obtain ⟨v1, vs1, d1, ds1, p1, q1, rfl, rfl, rfl, h1, r'1⟩ := trodAll_cons r'0
  obtain ⟨rfl, rfl, rfl⟩ := trodAll_nil r'1
  obtain rfl : args = #[v0, v1] := by cases args; simp_all
  obtain ⟨a0, rfl, rfl, rfl, w0⟩ := open_int Try.underlying5 (hval 0 5 v0 rfl rfl) h0
  obtain ⟨a1, rfl, rfl, rfl, w1⟩ := open_int Try.underlying5 (hval 1 5 v1 rfl rfl) h1
  exact walk (W := W) a0 w0 a1 w1
set_option maxRecDepth 100000 in
theorem lifted (os : Os) (started : os.Started) (H : Type) (enc : TypeId × Value → H) :
    ReturnsInHanded {} Try.checked os 8 .any (Rows.schedGreatSpec.pre6 enc Try.prog Try.f8 Rows.schedGreatRow.domain false) (Rows.schedGreatSpec.post enc Try.prog Try.f8 false true false false) :=
  law_lifted (C := Try.checked) (s := Rows.schedGreatSpec) (b := 4) own (by kernel_rfl) Try.func8 (by kernel_rfl) (by kernel_rfl) rfl Try.underlying4 rfl
    (fun ds h => by match ds, h with | [_, _], _ => rfl) calls os started
    (ChangeSpec.witness6 (enc := enc) (C := Try.checked) false ⟨#[], #[.int .u8 0, .int .u8 0], []⟩ 8 (by kernel_rfl) (by kernel_rfl) (by kernel_rfl) (by kernel_rfl))
/-- ████ THE STATEMENT ████ -/
theorem proved : Rows.SchedGreatSaid :=
  OpenClaim.holds_of_wide 8 Try.f8 rfl rfl rfl rfl rfl rfl rfl ⟨rfl, rfl, rfl, rfl, rfl⟩ rfl rfl rfl rfl rfl (by kernel_rfl) Try.func8 (by kernel_rfl)
    (of_decide_eq_true (by kernel_rfl)) (by unfold Func.isWrapper; first | (rw [if_pos (by decide +kernel)]; kernel_rfl) | (rw [if_neg (by decide +kernel)]; exact ⟨rfl, rfl⟩))
    (fun os started H enc _ => lifted os started H enc)
#print axioms proved
end Go.Proofs.Ythnaogfcffmphaa.schedGreat
