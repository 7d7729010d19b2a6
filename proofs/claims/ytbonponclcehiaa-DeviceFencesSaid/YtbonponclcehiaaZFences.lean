/-
  PROVED: the law DeviceFences answers true for every input, and each argument reads behind the call as before (Rows.DeviceFencesSaid). No condition.
-/
import Derived.Test.YtbonponclcehiaaZG
import Derived.BigQuiet
import Derived.Test.YtbonponclcehiaaRows
import Derived.Test.YtbonponclcehiaaZA
import Derived.Test.YtbonponclcehiaaZM
set_option linter.unusedVariables false
set_option linter.unusedSimpArgs false
/-
  DeviceFences: the walk.
-/
namespace Go.Proofs.Ytbonponclcehiaa.Dev
open Go.ChangeShapes Go.WideShapes Go.ChangeAt Go.RowKit Go.Proofs.Ytbonponclcehiaa.Mem Go.Proofs.Ytbonponclcehiaa.Args Go.Proofs.Ytbonponclcehiaa.Own Go.Proofs.Ytbonponclcehiaa.PackMath
theorem info64 : (Try.prog.info? 40).map (fun i => (i.zero, i.size, i.bytes)) = some (some (.int .u64 0), 1, 8) := by kernel_rfl
/-- Both in state S, which has the word's values vs, and the row of these. -/
def FN (w0 w : World) (d r n l j M : Nat) (v : Value) (vs : List Nat) : Prop :=
  ∃ S : St, BothF w0 w d r S S ∧ S.Ok M ∧ S.n = n ∧ S.Vals l j vs ∧ OwnInts .u64 40 w w0.heap.size v (ints vs)
theorem FN.base {w0 w : World} {d r n l j M : Nat} {v : Value} {vs : List Nat} (h : FN w0 w d r n l j M v vs) : Below w0.heap.size w0 w := by
  obtain ⟨S, h, _⟩ := h
  exact h.base
theorem fn_do {w0 w : World} {d r n l j M : Nat} {v : Value} {vs : List Nat} (h : FN w0 w d r n l j M v vs) (hM : M + 2 ≤ 1000000) (K T N : Int) (o old x : Nat) (ho : o < 18446744073709551616) (hx : x < 18446744073709551616) (hn1 : -9223372036854775808 ≤ N) (hn2 : N ≤ 9223372036854775807) :
    Calls Try.prog 44 #[.pointer (some ⟨d, 0, none⟩), .pointer (some ⟨r, 0, none⟩), .agg #[.int .i64 K, .int .i64 T, .int .u64 (o : Int), .int .u64 (old : Int), .int .u64 (x : Int), .int .i64 N]] w fun q w' => q = .returned (.bool true) ∧ Hid (∃ S' : St, BothF w0 w' d r S' S' ∧ S'.Ok (M + 2) ∧ S'.n = n ∧ S'.Vals l j (vs ++ [S'.cur l j]) ∧ OwnInts .u64 40 w' w0.heap.size v (ints vs)) := by
  obtain ⟨S, hb, hok, hn, hv, hown⟩ := h
  refine (do_gen w _ w0 w d r M S S K T N o old x hb.plain hok hok hM ho hx hn1 hn2).mono ?_
  rintro q w' ⟨b, e, hbt, H⟩
  refine ⟨by rw [e, hbt rfl], Lib.hid ⟨_, H.out.bothF, St.ev_ok hok _ _ _ _ _ _ hx hn2, by rw [St.ev_n]; exact hn, hv.ev _ _ _ _ _ _, OwnInts.plain hown H.out.kept⟩⟩
/-- The current content, and the word in it. -/
theorem bf_word {w0 w : World} {d r M n o : Nat} {S : St} (h : BothF w0 w d r S S) (hS : S.Ok M) (hn : S.n = n) (h8 : o % 8 = 0) (ho : o < 64 * n) :
    Calls Try.prog 32 #[.pointer (some ⟨d, 0, none⟩)] w fun e w' => ∃ D c, e = .returned (.slice D (64 * n) c) ∧ Hid (Below w.heap.size w w' ∧ BothF w0 w' d r S S) ∧
      Hid (∀ w2, Below w'.heap.size w' w2 → Calls Try.prog 46 #[.slice D (64 * n) c, .int .u64 (o : Int)] w2 fun q w3 => q = .returned (.int .u64 (S.cur (o / 64) (o / 8 % 8) : Int)) ∧ w3 = w2) := by
  refine (bk_current h hS).mono ?_
  rintro e w' ⟨v, e1, H⟩
  obtain ⟨D, c, e2, _, _, _, hi⟩ := H.out.1.form
  subst e2
  have hl : (content S (whole S) S.n).length = 64 * n := by rw [content_len, hn]
  rw [hl] at e1
  have hn1 := hS.n1
  refine ⟨D, c, e1, Lib.hid ⟨H.out.2.1, H.out.2.2⟩, Lib.hid fun w2 hb => ?_⟩
  have hw := word_any w2 D (64 * n) c w'.heap.size o (content S (whole S) S.n) hl (by omega) (by omega) (Lib.hid (hi.below hb)) (Lib.hid (content_range S hS _ _))
  rw [leTo_cur S S.n o h8 (by rw [hn]; exact ho)] at hw
  exact hw
theorem bf_imgword {w0 w : World} {d r M n l j o b : Nat} {v : Value} {vs : List Nat} (h : FN w0 w d r n l j M v vs) (hM : M ≤ 1000000) (hb : b < 256) (h8 : o % 8 = 0) (ho : o < 64 * n) (hl : l = o / 64) (hj : j = o / 8 % 8) :
    Calls Try.prog 33 #[.pointer (some ⟨d, 0, none⟩), .slice (some ⟨w.heap.size, 0, none⟩) 1 1] (w.alloc (.cells #[.int .u8 (b : Int)] 5)) fun e w' => ∃ D c g, e = .returned (.slice D (64 * n) c) ∧ Hid (FN w0 w' d r n l j M v vs) ∧ Hid (g ∈ vs) ∧
      Hid (Calls Try.prog 46 #[.slice D (64 * n) c, .int .u64 (o : Int)] w' fun q w3 => q = .returned (.int .u64 (g : Int)) ∧ w3 = w') := by
  obtain ⟨S, hbf, hok, hn, hv, hown⟩ := h
  have ha := (Below.refl w.heap.size w).alloc (Nat.le_refl _) (.cells #[.int .u8 (b : Int)] 5)
  have hc := IntsAt.new .u8 w 5 (0, 0) [(b : Int)]
  refine (bk_image (BothK.below hbf ha) (some ⟨w.heap.size, 0, none⟩) 1 1 (w.heap.size + 1) [(b : Int)] hok hM rfl (by omega) hc (by simp) (by intro z hz; rw [List.mem_singleton] at hz; omega)).mono ?_
  rintro e w' ⟨v', e1, H⟩
  obtain ⟨D, c, e2, _, _, _, hi⟩ := H.out.1.form
  subst e2
  have hcl : (content S (pickOf S [(b : Int)]) S.n).length = 64 * n := by rw [content_len, hn]
  rw [hcl] at e1
  have hn1 := hok.n1
  refine ⟨D, c, _, e1, Lib.hid ⟨S, H.out.2.2, hok, hn, hv, (hown.below ha).below (H.out.2.1)⟩, Lib.hid (hv.image (pickOf S [(b : Int)] l)), Lib.hid ?_⟩
  have hw := word_any w' D (64 * n) c w'.heap.size o (content S (pickOf S [(b : Int)]) S.n) hcl (by omega) (by omega) (Lib.hid hi) (Lib.hid (content_range S hok _ _))
  rw [leTo_content S _ S.n o h8 (by rw [hn]; exact ho), ← hl, ← hj] at hw
  exact hw
set_option maxRecDepth 100000 in
set_option maxHeartbeats 1000000 in
theorem fences_walk (W : World) (L : Int) (E : Option Addr) (n c : Nat) (K T N : Int) (o0 old x : Nat) (E2 : Option Addr) (n2 c2 : Nat) (hE : EvsAt W W.heap.size E n) (hn : n ≤ maxLen) (ho0 : o0 < 18446744073709551616) (hx : x < 18446744073709551616) (hE2 : EvsAt W W.heap.size E2 n2) (hn2 : n2 ≤ maxLen) :
    Calls Try.prog 9 #[.agg #[.int .i64 L, .slice E n c], .agg #[.int .i64 K, .int .i64 T, .int .u64 (o0 : Int), .int .u64 (old : Int), .int .u64 (x : Int), .int .i64 N], .slice E2 n2 c2] W fun e W' => e = .returned (.bool true) ∧ Below W.heap.size W W' := by
  obtain ⟨i0, hi, hz0, hz1, hz2⟩ := info_parts info64
  have HI := Lib.hid hi
  have HZ0 := Lib.hid hz0
  have HZ1 := Lib.hid hz1
  have HZ2 := Lib.hid hz2
  have HEV2 := Lib.hid hE2
  obtain ⟨t, ht⟩ : ∃ t : Nat, T % 8 = (t : Int) := ⟨(T % 8).toNat, by omega⟩
  have ht8 : t < 8 := by omega
  have HT := Lib.hid ht
  have HP : Hid (∀ w, Below W.heap.size W w → Calls Try.prog 41 #[.agg #[.int .i64 L, .slice E n c], .int .i64 25] w fun q w' => ∃ d r : Nat, q = .returned (.tuple #[.pointer (some ⟨d, 0, none⟩), .pointer (some ⟨r, 0, none⟩)]) ∧ Hid (∃ w0 S, BothF w0 w' d r S S ∧ S.Ok 50 ∧ Below w.heap.size w w0)) := Lib.hid fun w hb => by
    refine (play_any w L E n c 25 (by omega) (fun j hj => ?_) hn).mono ?_
    · obtain ⟨ad, e, hB, rest⟩ := hE.below hb j hj
      exact ⟨ad, e, Nat.lt_of_lt_of_le hB hb.size, rest⟩
    · rintro q w' ⟨d, r, k, w0, e, H⟩
      obtain ⟨⟨S, hbo, hok⟩, hk, _, hbw⟩ := H.out
      exact ⟨d, r, e, Lib.hid ⟨w0, S, hbo.bothF, hok.more (by omega), hbw⟩⟩
  obtain ⟨wb, hwb⟩ : ∃ wb, (W.alloc (.cells #[.int .i64 L, .slice E n c] 57)).alloc (.cells #[.int .i64 K, .int .i64 T, .int .u64 (o0 : Int), .int .u64 (old : Int), .int .u64 (x : Int), .int .i64 N] 66) = wb := ⟨_, rfl⟩
  have HX : Hid (∀ w', Below wb.heap.size wb w' → w'.cell? ⟨W.heap.size + 1, 1, none⟩ = some (.int .i64 T) ∧ w'.cell? ⟨W.heap.size + 1, 2, none⟩ = some (.int .u64 (o0 : Int)) ∧ w'.cell? ⟨W.heap.size + 1, 4, none⟩ = some (.int .u64 (x : Int)) ∧ w'.cell? ⟨W.heap.size + 1, 5, none⟩ = some (.int .i64 N)) := Lib.hid fun w' hb => by
    have hB : Blk wb (W.heap.size + 1) 66 6 (evG K T o0 old x N) := by
      rw [← hwb]
      have := Blk.newOf (W.alloc (.cells #[.int .i64 L, .slice E n c] 57)) #[.int .i64 K, .int .i64 T, .int .u64 (o0 : Int), .int .u64 (old : Int), .int .u64 (x : Int), .int .i64 N] 66 (n := 6) (g := evG K T o0 old x N) rfl (fun i hi => by
        match i, hi with
        | 0, _ => rfl
        | 1, _ => rfl
        | 2, _ => rfl
        | 3, _ => rfl
        | 4, _ => rfl
        | 5, _ => rfl
        | i + 6, h => exact absurd h (by omega))
      simpa using this
    have hB2 := hB.below hb hB.lt
    exact ⟨hB2.cell (o := 1) (by omega), hB2.cell (o := 2) (by omega), hB2.cell (o := 4) (by omega), hB2.cell (o := 5) (by omega)⟩
  have HBB : Hid (Below W.heap.size W wb) := by rw [← hwb]; exact ((Below.refl _ _).alloc (Nat.le_refl _) _).alloc (by simp) _
  have hb0 : wb.cell? ⟨W.heap.size, 0, none⟩ = some (.int .i64 L) := by rw [← hwb]; exact ((Blk.new W _ _).alloc _).cell (o := 0) (by show 0 < 2; omega)
  have hb1 : wb.cell? ⟨W.heap.size, 1, none⟩ = some (.slice E n c) := by rw [← hwb]; exact ((Blk.new W _ _).alloc _).cell (o := 1) (by show 1 < 2; omega)
  have HWB := Lib.hid hwb
  clear hi hz0 hz1 hz2 hE hE2 hwb ht hn
  go_enter Try.func9, Try.ntmps9
  go_upto_region 1 with (fail)
  rw [HWB.out]
  go_wp2_with (fail)
  refine (HP.out _ HBB.out).mono ?_
  rintro e w1 ⟨d, r, rfl, H1⟩
  obtain ⟨w0, S, hbf, hok, hbw⟩ := H1.out
  have HB1 := Lib.hid hbf
  have HOK := Lib.hid hok
  have HBW := Lib.hid hbw
  have hn0 := hok.n0
  have hn1 := hok.n1
  clear H1 hbf hok hbw hb0 hb1 HP
  obtain ⟨n0, hn0e⟩ : ∃ n0, S.n = n0 := ⟨_, rfl⟩
  rw [hn0e] at hn0 hn1
  have HN0 := Lib.hid hn0e
  obtain ⟨sz, hsz⟩ : ∃ sz, n0 * 64 = sz := ⟨_, rfl⟩
  obtain ⟨y, hy⟩ : ∃ y, o0 % sz = y := ⟨_, rfl⟩
  have hysz : y < sz := by rw [← hy]; exact Nat.mod_lt _ (by omega)
  obtain ⟨z, hz⟩ : ∃ z, y / 8 = z := ⟨_, rfl⟩
  obtain ⟨o, ho⟩ : ∃ o, z * 8 = o := ⟨_, rfl⟩
  have ho8 : o % 8 = 0 := by omega
  have hon : o < 64 * n0 := by omega
  have hsz0 : ((sz : Int) == 0) = false := by simp; omega
  have hmd : (o0 : Int) % (sz : Int) = (y : Int) := by rw [← hy]; simp
  have htm : (o0 : Int).tmod (sz : Int) = (y : Int) := by rw [Int.tmod_eq_emod_of_nonneg (by omega)]; exact hmd
  have hq1 : (y : Int) / 8 = (z : Int) := by omega
  have hq2 : (y : Int).tdiv 8 = (z : Int) := by rw [Int.tdiv_eq_ediv_of_nonneg (by omega)]; exact hq1
  have hml : IntKind.u64.wrap ((z : Int) * 8) = (o : Int) := by rw [IntKind.wrap_u64]; omega
  have hml2 : (z : Int) * 8 = (o : Int) := by omega
  have hwz : IntKind.u64.wrap (z : Int) = (z : Int) := by rw [IntKind.wrap_u64]; omega
  have hwo : IntKind.u64.wrap (o : Int) = (o : Int) := by rw [IntKind.wrap_u64]; omega
  have HSZ : Hid (∀ w, BothF w0 w d r S S → Calls Try.prog 26 #[.pointer (some ⟨d, 0, none⟩)] w fun q w' => q = .returned (.int .u64 (sz : Int)) ∧ w' = w) := Lib.hid fun w h => by
    have := bk_size h (by rw [hn0e]; exact hn1)
    rw [hn0e, hsz] at this
    exact this
  have HON := Lib.hid hon
  clear hn0e hsz hy hz ho hon
  have HXW : Hid (∀ w', Below w0.heap.size w0 w' → Below wb.heap.size wb w') := Lib.hid fun w' h => HBW.out.trans (h.mono HBW.out.size)
  go_wp2_with (first
    | (go_at_call 12; go_must (refine (awake_any _).mono ?_); rintro e w2 ⟨rfl, H2⟩; have HB2 : Hid (BothF w0 w2 d r S S) := Lib.hid (BothK.below HB1.out H2.out); obtain ⟨x1, x2, x4, x5⟩ := HX.out _ (HXW.out _ (BothF.base HB2.out)))
    | (go_at_call 47; refine (mod_any _ _ _ (by decide) (by decide)).mono ?_; rintro e w' ⟨rfl, hw⟩; have hw2 := hw.symm; clear hw; subst hw2; go_must (rw [HT.out])))
  go_quiet ((go_at_call 26; go_must (exact Calls.quiet_of_same (HSZ.out _ (by exact BothK.below HB2.out (below_drewN _ _ _))))))
  clear hwo
  have HBq : Hid (BothF w0 (w2.drewN nq) d r S S) := Lib.hid (BothK.below HB2.out (below_drewN _ _ _))
  clear x1 x2 x4 x5
  generalize w2.drewN nq = wq at *
  obtain ⟨x1, x2, x4, x5⟩ := HX.out _ (HXW.out _ (BothF.base HBq.out))
  clear hsz0 hmd htm hq1 hq2 hml hml2 hwz HB1 HB2 H2 HSZ
  have ho64 : o < 18446744073709551616 := by have := HON.out; omega
  have HO1 := Lib.hid (St.storeS_ok HOK.out t o x hx)
  have HO2 := Lib.hid (St.flushS_ok HO1.out t o)
  have HO3 := Lib.hid (St.fenceS_ok HO2.out t)
  obtain ⟨S3, hS3⟩ : ∃ S3, ((S.storeS t o x).flushS t o).fenceS t = S3 := ⟨_, rfl⟩
  have HS3 := Lib.hid hS3
  have HN3 : Hid (S3.n = n0) := Lib.hid (by rw [← hS3, St.fenceS_n, St.flushS_n, St.storeS_n]; exact HN0.out)
  have HV : Hid (S3.off = false → S3.Vals (o / 64) (o / 8 % 8) [x]) := Lib.hid fun hof => by
    rw [← hS3] at hof ⊢
    refine St.fenced t o x ?_ hof
    unfold St.isW
    have h1 := HON.out
    have h2 := HN0.out
    simp only [Bool.and_eq_true, decide_eq_true_eq]
    omega
  rw [hS3] at HO3
  clear hS3
  go_upto_region 15 with (first
    | (go_at_call 17; go_must (refine (thread_any _ d t ht8).mono ?_); rintro e w' ⟨rfl, hw⟩; have hw2 := hw.symm; clear hw; subst hw2)
    | (go_at_call 22; go_must (refine (bk_store HBq.out t o x HOK.out (by omega) ht8 ho64).mono ?_); rintro e w3 ⟨rfl, HB3⟩; clear x1 x2 x4 x5)
    | (go_at_call 23; go_must (refine (bk_flush HB3.out t o HO1.out (by omega) ht8 ho64).mono ?_); rintro e w4 ⟨rfl, HB4⟩)
    | (go_at_call 24; go_must (refine (bk_fence HB4.out t HO2.out (by omega) ht8).mono ?_); rintro e w5 ⟨rfl, HB5⟩; obtain ⟨x1, x2, x4, x5⟩ := HX.out _ (HXW.out _ (BothF.base HB5.out)))
    | (go_at_call 48; go_must (refine (bkr_store HB5.out t o x HOK.out (by omega) ht8 ho64).mono ?_); rintro e w6 ⟨rfl, HB6⟩; clear x1 x2 x4 x5)
    | (go_at_call 49; go_must (refine (bkr_flush HB6.out t o HO1.out (by omega) ht8 ho64).mono ?_); rintro e w7 ⟨rfl, HB7⟩)
    | (go_at_call 50; go_must (refine (bkr_fence HB7.out t HO2.out (by omega) ht8).mono ?_); rintro e w8 ⟨rfl, HB8⟩; rw [HS3.out] at HB8)
    | (go_at_call 15; go_must (refine (bk_same HB8.out HO3.out (by omega)).mono ?_); rintro e w9 ⟨rfl, HB9⟩; have HB10 : Hid (BothF w0 w9 d r S3 S3) := Lib.hid HB9.out.2; obtain ⟨x1, x2, x4, x5⟩ := HX.out _ (HXW.out _ (BothF.base HB10.out))))
  clear HBq HB3 HB4 HB5 HB6 HB7 HB8 HB9 HO1 HO2 HOK HS3 HN0
  have HBS : Hid (Below W.heap.size W w9) := Lib.hid (HBB.out.trans ((HXW.out _ (BothF.base HB10.out)).mono HBB.out.size))
  cases hof : S3.off with
  | true =>
    have HOF : Hid (Calls Try.prog 27 #[.pointer (some ⟨d, 0, none⟩)] w9 fun q w' => q = .returned (.bool true) ∧ w' = w9) := Lib.hid (by
      have := bk_off HB10.out
      rw [hof] at this
      exact this)
    clear hof HV
    go_wp2_with (go_at_call 27; go_must (refine HOF.out.mono ?_); rintro e w' ⟨rfl, hw⟩; have hw2 := hw.symm; clear hw; subst hw2)
    go_ret
    exact ⟨rfl, HBS.out⟩
  | false =>
    have HOF : Hid (Calls Try.prog 27 #[.pointer (some ⟨d, 0, none⟩)] w9 fun q w' => q = .returned (.bool false) ∧ w' = w9) := Lib.hid (by
      have := bk_off HB10.out
      rw [hof] at this
      exact this)
    have HV3 := Lib.hid (HV.out hof)
    clear hof HV
    go_wp2_with (go_at_call 27; go_must (refine HOF.out.mono ?_); rintro e w' ⟨rfl, hw⟩; have hw2 := hw.symm; clear hw; subst hw2)
    have HON2 := HON.out
    obtain ⟨l, hl⟩ : ∃ l, o / 64 = l := ⟨_, rfl⟩
    obtain ⟨j, hj⟩ : ∃ j, o / 8 % 8 = j := ⟨_, rfl⟩
    rw [hl, hj] at HV3
    have HL := Lib.hid hl
    have HJ := Lib.hid hj
    have HF0 : Hid (FN w0 (w9.alloc (.cells #[.int .u64 (x : Int)] 40)) d r n0 l j 56 (.slice (some ⟨w9.heap.size, 0, none⟩) 1 1) [x]) := Lib.hid ⟨S3, BothK.below HB10.out ((Below.refl _ _).alloc (Nat.le_refl _) _), HO3.out, HN3.out, HV3.out, World.ownsRow_lit w9 #[.int .u64 (x : Int)] 1 (BothF.base HB10.out).size (by simp [maxLen]) (by simp)⟩
    clear x1 x2 x4 x5 HOF HB10 hl hj
    go_loopw [12, 13] (fun v i wr => ∃ k : Nat, k ≤ 12 ∧ k ≤ n2 ∧ i = .int .i64 k ∧ Hid (∃ vs, vs.length = k + 1 ∧ FN w0 wr d r n0 l j (56 + 2 * k) v vs)) (fun _ i _ => 12 - (intOf i).toNat)
    case atStart => exact ⟨0, by omega, by omega, rfl, Lib.hid ⟨[x], rfl, HF0.out⟩⟩
    case round =>
      obtain ⟨k, hk12, hkn2, rfl, HRk⟩ := hrel
      obtain ⟨vs, hvl, hfn⟩ := HRk.out
      have HFN := Lib.hid hfn
      have hbz := HXW.out _ hfn.base
      have HVL := Lib.hid hvl
      clear HRk hfn hvl HF0
      by_cases hln2 : k < n2
      · have hlni2 : (k : Int) < (n2 : Int) := by omega
        by_cases hlm2 : k < 12
        · have hlmi2 : (k : Int) < 12 := by omega
          obtain ⟨ad, rfl, hB, K', T', N', o', old', x', b1, b2, b3, b4, k0, k1, k2, k3, k4, k5⟩ := HEV2.out.below (HBB.out.trans (hbz.mono HBB.out.size)) k hln2
          have HDO := Lib.hid (fn_do HFN.out (by omega) K' T' N' o' old' x' b1 b2 b3 b4)
          have hvl2 : (ints vs).length ≤ 13 := by rw [ints_len, HVL.out]; omega
          have HVL2 := Lib.hid hvl2
          clear hbz hB hvl2
          go_wp2_with (first
            | (go_at_call 44; go_must (refine HDO.out.mono ?_); rintro e w3 ⟨rfl, H3⟩; obtain ⟨S', hb3, hok3, hn3, hv3, hown3⟩ := H3.out; have HB3 := Lib.hid hb3; have HOK3 := Lib.hid hok3; have HN3' := Lib.hid hn3; have HV3' := Lib.hid hv3; have HOW3 := Lib.hid hown3; clear H3 hb3 hok3 hn3 hv3 hown3)
            | (go_at_call 15; go_must (refine (bk_same HB3.out HOK3.out (by omega)).mono ?_); rintro e w4 ⟨rfl, HB4⟩; have HOW4 := Lib.hid (OwnInts.below HOW3.out HB4.out.1))
            | (go_at_call 32; go_must (refine (bf_word HB4.out.2 HOK3.out HN3'.out ho8 HON2).mono ?_); rintro e w5 ⟨D, cD, rfl, HB5, HWD⟩; have HOW5 := Lib.hid (OwnInts.below HOW4.out HB5.out.1); rw [HL.out, HJ.out] at HWD)
            | (go_at_call 46; go_must (refine (HWD.out _ (Below.refl _ _)).mono ?_); rintro e w' ⟨rfl, hw⟩; have hw2 := hw.symm; clear hw; subst hw2)
            | (at_builtin; go_must (refine wpList_app (by simp [Region.wanted, yielded]) (.tmp 97) (.tmp 102) 76 rfl (v := u12) (B := w5.heap.size + 1) (c := 1) (A := some ⟨w5.heap.size, 0, none⟩) (zs := [(S'.cur l j : Int)]) Try.underlying76 HI.out HZ0.out HZ1.out HZ2.out rfl rfl (HOW5.out.alloc _) rfl (IntsAt.new .u64 w5 40 (0, 0) _) rfl (by have := HVL2.out; unfold maxLen; omega) (by have := HVL2.out; omega) (Nat.le_trans (BothF.base HB5.out.2).size (by simp)) ?_); intro v6 w6 ho6 hg6 ha6; have HB6 : Hid (BothF w0 w6 d r S' S') := Lib.hid (BothF.other (F := fun b => u12.ownBlock = some b) (BothK.below HB5.out.2 ((Below.refl _ _).alloc (Nat.le_refl _) _)) (Only.ofGrown hg6 fun b hb => .inl hb) (fun b hb => .inl (OwnInts.tag (HOW5.out.alloc _) hb)) (fun b hb => ((HOW5.out).lt b hb).1)); have HO6 := Lib.hid ho6; clear ho6 hg6 ha6))
          go_roundw
          case rel =>
            refine ⟨k + 1, by omega, by omega, by go_num, Lib.hid ⟨vs ++ [S'.cur l j], by rw [List.length_append, HVL.out]; rfl, S', HB6.out, HOK3.out, HN3'.out, HV3'.out, ?_⟩⟩
            rw [ints_snoc]
            exact HO6.out
          case measure => simp [intOf]; omega
        · have hlmi2 : ¬ (k : Int) < 12 := by omega
          have HFE : Hid (FN w0 wr d r n0 l j 80 u12 vs) := Lib.hid (by
            obtain ⟨S', a1, a2, a3⟩ := HFN.out
            exact ⟨S', a1, a2.more (by omega), a3⟩)
          obtain ⟨A, cA, hA, _, _, _, hIA⟩ := (show ∃ A cA, u12 = .slice A (ints vs).length cA ∧ (ints vs).length ≤ cA ∧ cA ≤ maxLen ∧ (A = none → cA = 0) ∧ IntsAt .u64 wr wr.heap.size A (ints vs) from by
            obtain ⟨S', _, _, _, _, h⟩ := HFN.out
            exact h.form)
          subst hA
          obtain ⟨m, hm⟩ : ∃ m, vs.length = m := ⟨_, rfl⟩
          have hml : (ints vs).length = m := by rw [ints_len]; exact hm
          rw [hml]
          have hm13 : m ≤ 13 := by rw [← hm, HVL.out]; omega
          obtain ⟨x1, x2, x4, x5⟩ := HX.out _ (HXW.out _ HFE.out.base)
          obtain ⟨b, hb⟩ : ∃ b : Nat, N % 256 = (b : Int) := ⟨(N % 256).toNat, by omega⟩
          have hb256 : b < 256 := by omega
          have hwN : IntKind.u8.wrap N = (b : Int) := by rw [← hb]; simp [IntKind.wrap, IntKind.min, IntKind.max, IntKind.bits, IntKind.signed]
          have HIW := Lib.hid (bf_imgword (b := b) HFE.out (by omega) hb256 ho8 HON2 HL.out.symm HJ.out.symm)
          rw [hml] at HIW
          clear hbz hIA HFN HVL hb hm
          go_wp2_with (first
            | (go_at_call 33; go_must (refine HIW.out.mono ?_); rintro e w3 ⟨D, cD, g, rfl, HF3, HG3, HW3⟩)
            | (go_at_call 46; go_must (refine HW3.out.mono ?_); rintro e w' ⟨rfl, hw⟩; have hw2 := hw.symm; clear hw; subst hw2))
          have HC : Hid (∀ q, q < m → ∃ (ad : Addr) (vq : Nat), A = some ad ∧ w3.cell? (ad.add q) = some (.int .u64 (vq : Int)) ∧ vs[q]? = some vq) := Lib.hid fun q hq => by
            obtain ⟨S', _, _, _, _, hown⟩ := HF3.out
            obtain ⟨ad, h1, h2⟩ := OwnInts.at hown q (by rw [hml]; exact hq)
            have hqv : q < vs.length := by rw [← ints_len]; rw [hml]; exact hq
            refine ⟨ad, vs[q], h1, ?_, List.getElem?_eq_getElem hqv⟩
            rw [h2]; simp [ints]
          have HMB : Hid (∃ q, q < m ∧ vs[q]? = some g) := Lib.hid (by
            obtain ⟨q, hq, e⟩ := List.getElem_of_mem HG3.out
            exact ⟨q, by rw [← hml, ints_len]; exact hq, by rw [List.getElem?_eq_getElem hq, e]⟩)
          clear x1 x2 x4 x5 hwN hml HIW HW3 HG3 HFE
          go_loopw [114] (fun i wx => ∃ q : Nat, q ≤ m ∧ i = .int .i64 q ∧ wx = w3 ∧ Hid (∀ p, p < q → vs[p]? ≠ some g)) (fun i _ => m - (intOf i).toNat)
          case atStart => exact ⟨0, by omega, rfl, rfl, Lib.hid fun p hp => absurd hp (by omega)⟩
          case round =>
            obtain ⟨q, hq, rfl, hwx, HQ⟩ := hrel
            subst hwx
            by_cases hqm : q < m
            · have hqi : (q : Int) < (m : Int) := by omega
              obtain ⟨ad2, vq, rfl, hc, hv⟩ := HC.out q hqm
              have HVQ := Lib.hid hv
              clear hv
              by_cases hg : g = vq
              · subst hg
                go_wp2
                go_ret
                exact ⟨rfl, HBB.out.trans ((HXW.out _ HF3.out.base).mono HBB.out.size)⟩
              · have hgi : ((g : Int) == (vq : Int)) = false := by simp; omega
                have hgn : ¬ (g : Int) = (vq : Int) := by omega
                have HGN := Lib.hid hg
                clear hg
                go_wp2
                go_roundw
                case rel =>
                  refine ⟨q + 1, by omega, by go_num, by first | rfl | trivial, Lib.hid fun p hp => ?_⟩
                  by_cases hpq : p = q
                  · subst hpq
                    rw [HVQ.out]
                    intro e
                    exact HGN.out (Option.some.inj e).symm
                  · exact HQ.out p (by omega)
                case measure => simp [intOf]; omega
            · exfalso
              obtain ⟨q', hq', h⟩ := HMB.out
              exact HQ.out q' (by omega) h
      · have hlni2 : ¬ (k : Int) < (n2 : Int) := by omega
        have HFE : Hid (FN w0 wr d r n0 l j 80 u12 vs) := Lib.hid (by
          obtain ⟨S', a1, a2, a3⟩ := HFN.out
          exact ⟨S', a1, a2.more (by omega), a3⟩)
        obtain ⟨A, cA, hA, _, _, _, hIA⟩ := (show ∃ A cA, u12 = .slice A (ints vs).length cA ∧ (ints vs).length ≤ cA ∧ cA ≤ maxLen ∧ (A = none → cA = 0) ∧ IntsAt .u64 wr wr.heap.size A (ints vs) from by
          obtain ⟨S', _, _, _, _, h⟩ := HFN.out
          exact h.form)
        subst hA
        obtain ⟨m, hm⟩ : ∃ m, vs.length = m := ⟨_, rfl⟩
        have hml : (ints vs).length = m := by rw [ints_len]; exact hm
        rw [hml]
        have hm13 : m ≤ 13 := by rw [← hm, HVL.out]; omega
        obtain ⟨x1, x2, x4, x5⟩ := HX.out _ (HXW.out _ HFE.out.base)
        obtain ⟨b, hb⟩ : ∃ b : Nat, N % 256 = (b : Int) := ⟨(N % 256).toNat, by omega⟩
        have hb256 : b < 256 := by omega
        have hwN : IntKind.u8.wrap N = (b : Int) := by rw [← hb]; simp [IntKind.wrap, IntKind.min, IntKind.max, IntKind.bits, IntKind.signed]
        have HIW := Lib.hid (bf_imgword (b := b) HFE.out (by omega) hb256 ho8 HON2 HL.out.symm HJ.out.symm)
        rw [hml] at HIW
        clear hbz hIA HFN HVL hb hm
        go_wp2_with (first
          | (go_at_call 33; go_must (refine HIW.out.mono ?_); rintro e w3 ⟨D, cD, g, rfl, HF3, HG3, HW3⟩)
          | (go_at_call 46; go_must (refine HW3.out.mono ?_); rintro e w' ⟨rfl, hw⟩; have hw2 := hw.symm; clear hw; subst hw2))
        have HC : Hid (∀ q, q < m → ∃ (ad : Addr) (vq : Nat), A = some ad ∧ w3.cell? (ad.add q) = some (.int .u64 (vq : Int)) ∧ vs[q]? = some vq) := Lib.hid fun q hq => by
          obtain ⟨S', _, _, _, _, hown⟩ := HF3.out
          obtain ⟨ad, h1, h2⟩ := OwnInts.at hown q (by rw [hml]; exact hq)
          have hqv : q < vs.length := by rw [← ints_len]; rw [hml]; exact hq
          refine ⟨ad, vs[q], h1, ?_, List.getElem?_eq_getElem hqv⟩
          rw [h2]; simp [ints]
        have HMB : Hid (∃ q, q < m ∧ vs[q]? = some g) := Lib.hid (by
          obtain ⟨q, hq, e⟩ := List.getElem_of_mem HG3.out
          exact ⟨q, by rw [← hml, ints_len]; exact hq, by rw [List.getElem?_eq_getElem hq, e]⟩)
        clear x1 x2 x4 x5 hwN hml HIW HW3 HG3 HFE
        go_loopw [114] (fun i wx => ∃ q : Nat, q ≤ m ∧ i = .int .i64 q ∧ wx = w3 ∧ Hid (∀ p, p < q → vs[p]? ≠ some g)) (fun i _ => m - (intOf i).toNat)
        case atStart => exact ⟨0, by omega, rfl, rfl, Lib.hid fun p hp => absurd hp (by omega)⟩
        case round =>
          obtain ⟨q, hq, rfl, hwx, HQ⟩ := hrel
          subst hwx
          by_cases hqm : q < m
          · have hqi : (q : Int) < (m : Int) := by omega
            obtain ⟨ad2, vq, rfl, hc, hv⟩ := HC.out q hqm
            have HVQ := Lib.hid hv
            clear hv
            by_cases hg : g = vq
            · subst hg
              go_wp2
              go_ret
              exact ⟨rfl, HBB.out.trans ((HXW.out _ HF3.out.base).mono HBB.out.size)⟩
            · have hgi : ((g : Int) == (vq : Int)) = false := by simp; omega
              have hgn : ¬ (g : Int) = (vq : Int) := by omega
              have HGN := Lib.hid hg
              clear hg
              go_wp2
              go_roundw
              case rel =>
                refine ⟨q + 1, by omega, by go_num, by first | rfl | trivial, Lib.hid fun p hp => ?_⟩
                by_cases hpq : p = q
                · subst hpq
                  rw [HVQ.out]
                  intro e
                  exact HGN.out (Option.some.inj e).symm
                · exact HQ.out p (by omega)
              case measure => simp [intOf]; omega
          · exfalso
            obtain ⟨q', hq', h⟩ := HMB.out
            exact HQ.out q' (by omega) h
end Go.Proofs.Ytbonponclcehiaa.Dev
namespace Go.Proofs.Ytbonponclcehiaa.deviceFences
open Go.ChangeShapes Go.WideShapes Go.ChangeAt Go.RowKit Go.Proofs.Ytbonponclcehiaa.Law Go.Proofs.Ytbonponclcehiaa.Args
set_option linter.unusedVariables false
set_option linter.unusedSimpArgs false
open Go.Proofs.Ytbonponclcehiaa.Mem Go.Proofs.Ytbonponclcehiaa.Own Go.Proofs.Ytbonponclcehiaa.Dev
theorem walk (W : World) (L : Int) (E : Option Addr) (n c : Nat) (hE : EvsAt W W.heap.size E n) (hn : n ≤ maxLen) (K T N : Int) (o0 old x : Nat) (ho0 : o0 < 18446744073709551616) (hx : x < 18446744073709551616) (_ : -9223372036854775808 ≤ N) (_ : N ≤ 9223372036854775807) (E2 : Option Addr) (n2 c2 : Nat) (hE2 : EvsAt W W.heap.size E2 n2) (hn2 : n2 ≤ maxLen) :
    Calls Try.prog 9 #[.agg #[.int .i64 L, .slice E n c], .agg #[.int .i64 K, .int .i64 T, .int .u64 (o0 : Int), .int .u64 (old : Int), .int .u64 (x : Int), .int .i64 N], .slice E2 n2 c2] W fun e W' => e = .returned (.bool true) ∧ Below W.heap.size W W' := fences_walk W L E n c K T N o0 old x E2 n2 c2 hE hn ho0 hx hE2 hn2

/-! ### the frame -/
theorem own : ownKnob Try.prog.godebug = none := by kernel_rfl
set_option maxRecDepth 100000 in
theorem calls {H : Type} {enc : TypeId × Value → H} (W : World) (base : Nat) (args : Array Value) (ds : List (DataW H)) (p : List MemPlace)
    (hval0 : ∀ (j : Nat) t v, Try.f9.params[j]? = some t → args[j]? = some v → Value.okWide Try.prog W .any base t v)
    (hA : DataW.TrodAll enc Try.prog W 0 (fun _ => true) true Try.f9.params.toList args.toList ds p) (_ : W.noneFrozen p)
    (hsz : (DataW.weightsEach Try.prog Try.f9.params.toList ds).all (· ≤ reachBytes) = true) :
    Calls Try.prog 9 args W fun e W' => e = .returned (.bool true) ∧ Below W.heap.size W W' := by
  have hval : ∀ (j : Nat) t v, Try.f9.params[j]? = some t → args[j]? = some v → Value.okWide Try.prog W .any base t v := hval0
  clear hval0
  rw [Try.params9] at hA hval hsz
  obtain ⟨v0, vs0, d0, ds0, p0, q0, hargs, rfl, rfl, h0, r'0⟩ := trodAll_cons hA
  obtain ⟨v1, vs1, d1, ds1, p1, q1, rfl, rfl, rfl, h1, r'1⟩ := trodAll_cons r'0
  obtain ⟨v2, vs2, d2, ds2, p2, q2, rfl, rfl, rfl, h2, r'2⟩ := trodAll_cons r'1
  obtain ⟨rfl, rfl, rfl⟩ := trodAll_nil r'2
  obtain rfl : args = #[v0, v1, v2] := by cases args; simp_all
  obtain ⟨L0, E0, n0, c0, rfl, hn0, hE0⟩ := open_run (hval 0 57 v0 rfl rfl) h0
  obtain ⟨K1, T1, N1, o1, old1, x1, rfl, ho1, hx1, hna1, hnb1⟩ := open_evx (hval 1 66 v1 rfl rfl) h1
  obtain ⟨E2, n2, c2, rfl, hn2, hE2⟩ := open_evs (hval 2 55 v2 rfl rfl) h2
  exact walk (W := W) L0 E0 n0 c0 hE0 hn0 K1 T1 N1 o1 old1 x1 ho1 hx1 hna1 hnb1 E2 n2 c2 hE2 hn2
set_option maxRecDepth 100000 in
theorem lifted (os : Os) (started : os.Started) (H : Type) (enc : TypeId × Value → H) :
    ReturnsInHanded {} Try.checked os 9 .any (Rows.deviceFencesSpec.pre6 enc Try.prog Try.f9 Rows.deviceFencesRow.domain false) (Rows.deviceFencesSpec.post enc Try.prog Try.f9 false true false false) :=
  law_lifted (C := Try.checked) (s := Rows.deviceFencesSpec) (b := 4) own (by kernel_rfl) Try.func9 (by kernel_rfl) (by kernel_rfl) rfl Try.underlying4 rfl
    (fun ds h => by match ds, h with | [_, _, _], _ => rfl) calls os started
    (ChangeSpec.witness6 (enc := enc) (C := Try.checked) false ⟨#[], #[.agg #[.int .i64 0, .slice none 0 0], .agg #[.int .i64 0, .int .i64 0, .int .u64 0, .int .u64 0, .int .u64 0, .int .i64 0], .slice none 0 0], []⟩ 8 (by kernel_rfl) (by kernel_rfl) (by kernel_rfl) (by kernel_rfl))
/-- ████ THE STATEMENT ████ -/
theorem proved : Rows.DeviceFencesSaid :=
  OpenClaim.holds_of_wide 9 Try.f9 rfl rfl rfl rfl rfl rfl rfl ⟨rfl, rfl, rfl, rfl, rfl⟩ rfl rfl rfl rfl rfl (by kernel_rfl) Try.func9 (by kernel_rfl)
    (of_decide_eq_true (by kernel_rfl)) (by unfold Func.isWrapper; first | (rw [if_pos (by decide +kernel)]; kernel_rfl) | (rw [if_neg (by decide +kernel)]; exact ⟨rfl, rfl⟩))
    (fun os started H enc _ => lifted os started H enc)
#print axioms proved
end Go.Proofs.Ytbonponclcehiaa.deviceFences
