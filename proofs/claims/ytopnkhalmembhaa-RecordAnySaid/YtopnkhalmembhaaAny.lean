/-
  PROVED: the law RecordAny answers true for every input, and each argument reads behind the call as before (Rows.RecordAnySaid). No condition.
-/
import Derived.Test.YtopnkhalmembhaaRows
import Derived.Test.YtopnkhalmembhaaLaw
import Derived.Test.YtopnkhalmembhaaArgs
import Derived.Test.YtopnkhalmembhaaRecAwake
import Derived.Test.YtopnkhalmembhaaRecOwnC
import Derived.Test.YtopnkhalmembhaaRecOwnF
import Derived.Test.YtopnkhalmembhaaRecOwnG
import Derived.Test.YtopnkhalmembhaaRecOwnH
import Derived.Test.YtopnkhalmembhaaRecOwnJ
import Derived.Test.YtopnkhalmembhaaRecOwnK
namespace Go.Proofs.Ytopnkhalmembhaa.recordAny
open Go.ChangeShapes Go.WideShapes Go.ChangeAt Go.RowKit Go.Proofs.Ytopnkhalmembhaa.Law Go.Proofs.Ytopnkhalmembhaa.Args
set_option linter.unusedVariables false
set_option linter.unusedSimpArgs false
open Go.Proofs.Ytopnkhalmembhaa.Rec Go.Proofs.Ytopnkhalmembhaa.Mem Go.Proofs.Ytopnkhalmembhaa.Own
theorem tw_yes {a b : Int} (ha : 1 ≤ a ∧ a ≤ 4096) (hb : 1 ≤ b ∧ b ≤ 4096) (h : a + b ≤ 4096) : tw (vs a) (vs b) = a + b := by
  rw [vs_ok ha.1 ha.2, vs_ok hb.1 hb.2]
  exact tw_ok (by omega)
theorem tw_no {a b : Int} (h : ¬ ((1 ≤ a ∧ a ≤ 4096) ∧ (1 ≤ b ∧ b ≤ 4096) ∧ a + b ≤ 4096)) : tw (vs a) (vs b) = 0 := by
  apply tw_bad
  by_cases ha : 1 ≤ a ∧ a ≤ 4096
  · by_cases hb : 1 ≤ b ∧ b ≤ 4096
    · right; right
      rw [vs_ok ha.1 ha.2, vs_ok hb.1 hb.2]
      omega
    · right; left
      exact vs_no hb
  · left
    exact vs_no ha
theorem tw_pos {a b X : Int} (h : tw (vs a) (vs b) = X) (h0 : X ≠ 0) : (1 ≤ a ∧ a ≤ 4096) ∧ (1 ≤ b ∧ b ≤ 4096) ∧ a + b ≤ 4096 ∧ a + b = X := by
  by_cases hc : (1 ≤ a ∧ a ≤ 4096) ∧ (1 ≤ b ∧ b ≤ 4096) ∧ a + b ≤ 4096
  · refine ⟨hc.1, hc.2.1, hc.2.2, ?_⟩
    rw [← h, tw_yes hc.1 hc.2.1 hc.2.2]
  · exact absurd (by rw [← h, tw_no hc]) h0
theorem aw_pos {a n Y : Int} (h : aw (vs a) n = Y) (h0 : Y ≠ 0) : (1 ≤ a ∧ a ≤ 4096) ∧ 0 ≤ n ∧ 1 + n * a ≤ 4096 ∧ 0 ≤ n * a ∧ 1 + n * a = Y := by
  by_cases ha : 1 ≤ a ∧ a ≤ 4096
  · by_cases hc : 0 ≤ n ∧ 1 + n * a ≤ 4096
    · refine ⟨ha, hc.1, hc.2, Int.mul_nonneg hc.1 (by omega), ?_⟩
      rw [← h, aw_yes ha.1 ha.2 hc.1 hc.2]
    · exact absurd (by rw [← h, aw_no ha.1 ha.2 (by omega)]) h0
  · exact absurd (by rw [← h, vs_no ha]; exact aw_bad (.inl rfl)) h0
theorem ow_yes {b : Int} (hb : 1 ≤ b ∧ b ≤ 4096) (h : b < 4096) : ow (vs b) = b + 1 := by
  rw [vs_ok hb.1 hb.2]
  exact ow_ok (by omega)
theorem ow_no {b : Int} (h : ¬ ((1 ≤ b ∧ b ≤ 4096) ∧ b < 4096)) : ow (vs b) = 0 := by
  apply ow_bad
  by_cases hb : 1 ≤ b ∧ b ≤ 4096
  · right
    rw [vs_ok hb.1 hb.2]
    omega
  · left
    exact vs_no hb
/-- The boxes of the three codecs, nothing old touched. -/
structure Any3 (W w : World) (z : Nat) (a b n : Int) : Prop where
  p : Blk w z 87 2 (twoG (ownC a) (ownC b))
  l : Blk w (z + 1) 89 2 (twoG (.int .i64 n) (ownC a))
  o : Blk w (z + 1 + 1) 91 1 (fun _ => ownC b)
  below : Below W.heap.size W w
theorem Any3.on {W w w' : World} {z : Nat} {a b n : Int} (h : Any3 W w z a b n) (k : Below w.heap.size w w') : Any3 W w' z a b n :=
  ⟨blk_below h.p k, blk_below h.l k, blk_below h.o k, h.below.trans (k.mono h.below.size)⟩
/-- The boxes of two codecs and of the number three. -/
structure AnyS (W w : World) (z t : Nat) (a b : Int) : Prop where
  p : Blk w z 87 2 (twoG (ownC a) (ownC b))
  o : Blk w (z + 1 + 1) 91 1 (fun _ => ownC b)
  t : Blk w t 22 1 (fun _ => .int .u64 3)
  below : Below W.heap.size W w
theorem AnyS.on {W w w' : World} {z t : Nat} {a b : Int} (h : AnyS W w z t a b) (k : Below w.heap.size w w') : AnyS W w' z t a b :=
  ⟨blk_below h.p k, blk_below h.o k, blk_below h.t k, h.below.trans (k.mono h.below.size)⟩
theorem AnyS.only {W w w' : World} {z t x : Nat} {a b : Int} (h : AnyS W w z t a b) (k : Only (· = x) w w') (hx : z < x) (hx2 : z + 1 + 1 < x) (hx3 : t < x) (hx4 : W.heap.size ≤ x) : AnyS W w' z t a b :=
  ⟨k.blk h.p (by omega), k.blk h.o (by omega), k.blk h.t (by omega), h.below.trans (k.below h.below.size (fun b hb => by omega))⟩
theorem AnyS.set {W w : World} {z t x o : Nat} {a b : Int} {v : Value} (h : AnyS W w z t a b) (hx : z < x) (hx2 : z + 1 + 1 < x) (hx3 : t < x) (hx4 : W.heap.size ≤ x) : AnyS W (w.setCell ⟨x, o, none⟩ v) z t a b :=
  ⟨h.p.setOther (by simp; omega) _, h.o.setOther (by simp; omega) _, h.t.setOther (by simp; omega) _, h.below.setCell hx4 _⟩
theorem prow_set {w : World} {tb q a b x o : Nat} {T : TypeId} {u v : Int} {y : Value} (h : PRow w tb T q u v a b) (hx : tb < x) : PRow (w.setCell ⟨x, o, none⟩ y) tb T q u v a b := by
  obtain ⟨⟨g, hg, hj⟩, h1, h2, h3⟩ := h
  exact ⟨⟨g, hg.setOther (by simp; omega) _, hj⟩, h1, h2, h3⟩
theorem prow_c0 {w : World} {tb q a b : Nat} {T : TypeId} {u v : Int} (h : PRow w tb T q u v a b) : w.cell? ⟨tb, 0, none⟩ = some (.int .u64 u) := by
  obtain ⟨⟨g, hg, hj⟩, h1, h2, h3⟩ := h
  have e := pws_head u v a b 0 h1 h2 (by rw [ows_len]; omega)
  rw [Nat.zero_add] at e
  rw [hg.cell (o := 0) (by omega), hj 0 (by omega), e]
  rfl
theorem prow_ca {w : World} {tb q a b : Nat} {T : TypeId} {u v : Int} (h : PRow w tb T q u v a b) : w.cell? ⟨tb, a, none⟩ = some (.int .u64 v) := by
  obtain ⟨⟨g, hg, hj⟩, h1, h2, h3⟩ := h
  have e := pws_tail u v a b 0 h1 h2 (by rw [ows_len]; omega)
  rw [Nat.add_zero] at e
  rw [hg.cell (o := a) (by omega), hj a (by omega), e]
  rfl
theorem prow_of {w : World} {tb q a b : Nat} {T : TypeId} {u v : Int} {g : Nat → Value} (h : Blk w tb T q (put g 0 ((pws u v a b).map (Value.int .u64)))) (ha : 1 ≤ a) (hb : 1 ≤ b) (hq : a + b = q) : PRow w tb T q u v a b :=
  ⟨⟨_, h, fun j hj => by
    have := put_in g 0 ((pws u v a b).map (Value.int .u64)) (j := j) (by rw [List.length_map, pws_len u v a b ha hb]; omega)
    rw [Nat.zero_add] at this
    exact this⟩, ha, hb, hq⟩
theorem opt_of {w : World} {tb : Nat} {T : TypeId} {g : Nat → Value} (x : Int) (b q : Nat) (h : Blk w tb T q (put g 0 ((1 :: ows x (b - 1)).map (Value.int .u64)))) (hb : 1 ≤ b) (hq : b + 1 = q) : Blk w tb T q (put g 0 ((1 :: ows x (b - 1)).map (Value.int .u64))) ∧ ∀ j, j < q → put g 0 ((1 :: ows x (b - 1)).map (Value.int .u64)) j = ((1 :: ows x (b - 1)).map (Value.int .u64)).getD j default :=
  ⟨h, fun j hj => by
    have := put_in g 0 ((1 :: ows x (b - 1)).map (Value.int .u64)) (j := j) (by rw [List.length_map, List.length_cons, ows_len]; omega)
    rw [Nat.zero_add] at this
    exact this⟩
theorem opt_c0 {w : World} {tb q b : Nat} {x : Int} {T : TypeId} {g : Nat → Value} (h : Blk w tb T q g) (k : ∀ j, j < q → g j = ((1 :: ows x (b - 1)).map (Value.int .u64)).getD j default) (hq : 0 < q) : w.cell? ⟨tb, 0, none⟩ = some (.int .u64 1) := by
  rw [h.cell (o := 0) hq, k 0 hq]
  rfl
theorem opt_c1 {w : World} {tb q b : Nat} {x : Int} {T : TypeId} {g : Nat → Value} (h : Blk w tb T q g) (k : ∀ j, j < q → g j = ((1 :: ows x (b - 1)).map (Value.int .u64)).getD j default) (hq : 1 < q) : w.cell? ⟨tb, 1, none⟩ = some (.int .u64 x) := by
  rw [h.cell (o := 1) hq, k 1 hq]
  rfl
theorem nil_c {w : World} {tb q j : Nat} {T : TypeId} {g : Nat → Value} (h : Blk w tb T q (put g 0 ((List.replicate q (0 : Int)).map (Value.int .u64)))) (hj : j < q) : w.cell? ⟨tb, j, none⟩ = some (.int .u64 0) := by
  have := put_in g 0 ((List.replicate q (0 : Int)).map (Value.int .u64)) (j := j) (by simpa using hj)
  rw [Nat.zero_add] at this
  rw [h.cell hj, this]
  simp [List.getD, hj]
theorem one_new (w : World) (a : Value) (T : TypeId) : Blk (w.alloc (.cells #[a] T)) w.heap.size T 1 (fun _ => a) :=
  Blk.newOf w #[a] T rfl (fun o ho => by
    obtain rfl : o = 0 := by omega
    rfl)
theorem ow_pos {b Z : Int} (h : ow (vs b) = Z) (h0 : Z ≠ 0) : (1 ≤ b ∧ b ≤ 4096) ∧ b < 4096 ∧ b + 1 = Z := by
  by_cases hc : (1 ≤ b ∧ b ≤ 4096) ∧ b < 4096
  · refine ⟨hc.1, hc.2, ?_⟩
    rw [← h, ow_yes hc.1 hc.2]
  · exact absurd (by rw [← h, ow_no hc]) h0
set_option maxRecDepth 100000 in
set_option maxHeartbeats 8000000 in
theorem walk (W : World) (a0 : Int) (w0 : (Lit.int .i64 a0).wf = true) (a1 : Int) (w1 : (Lit.int .i64 a1).wf = true) (a2 : Int) (w2 : (Lit.int .i64 a2).wf = true) :
    Calls Try.prog 8 #[.int .i64 a0, .int .i64 a1, .int .i64 a2] W fun e W' => e = .returned (.bool true) ∧ Below W.heap.size W W' := by
  have HWA := Lib.hid w0
  have HWB := Lib.hid w1
  have HWN := Lib.hid w2
  obtain ⟨X, hX⟩ : ∃ X, tw (vs a0) (vs a1) = X := ⟨_, rfl⟩
  obtain ⟨Y, hY⟩ : ∃ Y, aw (vs a0) a2 = Y := ⟨_, rfl⟩
  obtain ⟨Z, hZ⟩ : ∃ Z, ow (vs a1) = Z := ⟨_, rfl⟩
  have HX := Lib.hid hX
  have HY := Lib.hid hY
  have HZ := Lib.hid hZ
  have HPW := Lib.hid (o2_words_x a0 a1 X HWA HWB HX)
  have HLW := Lib.hid (arr_words_x a0 a2 Y HWA HWN HY)
  have HOW := Lib.hid (o1_words_x a1 Z HWB HZ)
  have HVY := Lib.hid valid_yes
  have HVN := Lib.hid valid_no
  have HS0 : Hid (∀ w, Below W.heap.size W w → Any3 W (((w.alloc (.cells #[ownC a0, ownC a1] 87)).alloc (.cells #[.int .i64 a2, ownC a0] 89)).alloc (.cells #[ownC a1] 91)) w.heap.size a0 a1 a2) := Lib.hid (fun w hb => ⟨
    ((two_new w (ownC a0) (ownC a1) 87).alloc _).alloc _,
    (by have := (two_new (w.alloc (.cells #[ownC a0, ownC a1] 87)) (.int .i64 a2) (ownC a0) 89).alloc (.cells #[ownC a1] 91); simpa using this),
    (by have := one_new ((w.alloc (.cells #[ownC a0, ownC a1] 87)).alloc (.cells #[.int .i64 a2, ownC a0] 89)) (ownC a1) 91; simpa using this),
    hb.trans ((al3 w _ _ _).mono hb.size)⟩)
  have hra := wf_i64 w0
  have hrb := wf_i64 w1
  have hrn := wf_i64 w2
  clear hX hY hZ w0 w1 w2
  obtain ⟨va, hva⟩ : ∃ va, decide (1 ≤ a0 ∧ a0 ≤ 4096) = va := ⟨_, rfl⟩
  obtain ⟨vb, hvb⟩ : ∃ vb, decide (1 ≤ a1 ∧ a1 ≤ 4096) = vb := ⟨_, rfl⟩
  have HVA := Lib.hid (valid_any a0)
  have HVB := Lib.hid (valid_any a1)
  rw [hva] at HVA
  rw [hvb] at HVB
  have HA' := Lib.hid hva
  have HB' := Lib.hid hvb
  clear hva hvb HVY HVN
  obtain ⟨bX, hbX⟩ : ∃ b, (X == 0) = b := ⟨_, rfl⟩
  obtain ⟨bY, hbY⟩ : ∃ b, (Y == 0) = b := ⟨_, rfl⟩
  obtain ⟨bZ, hbZ⟩ : ∃ b, (Z == 0) = b := ⟨_, rfl⟩
  have HBX := Lib.hid hbX
  have HBY := Lib.hid hbY
  have HBZ := Lib.hid hbZ
  have HRA := Lib.hid hra
  have HRB := Lib.hid hrb
  have HRN := Lib.hid hrn
  clear hbX hbY hbZ hra hrb hrn
  go_enter Try.func8, Try.ntmps8
  go_upto_region 6 with (go_at_call 12; go_must (refine (awake_any _).mono ?_); rintro e wA ⟨rfl, HA⟩)
  have HAA := Lib.hid HA
  clear HA
  go_cut [49] from 36 (fun c wx => c = .bool (!bX) ∧ wA.alloc (.cells #[ownC a0, ownC a1] 87) = wx)
  case first =>
    as_aux_lemma =>
      cases va
      · go_wp2_with (go_at_call_of 40 (Value.int .i64 a0); go_must (refine (HVA.out _).mono ?_); rintro e wV ⟨rfl, hw⟩; subst wV)
        go_meet
        exact ⟨by rw [← HBX.out, ← HX.out, tw_no (by have := of_decide_eq_false HA'.out; omega)]; rfl, rfl⟩
      · have ha := of_decide_eq_true HA'.out
        cases vb
        · go_wp2_with (first
            | (go_at_call_of 40 (Value.int .i64 a0); go_must (refine (HVA.out _).mono ?_); rintro e wV ⟨rfl, hw⟩; subst wV)
            | (go_at_call_of 40 (Value.int .i64 a1); go_must (refine (HVB.out _).mono ?_); rintro e wV ⟨rfl, hw⟩; subst wV))
          go_meet
          exact ⟨by rw [← HBX.out, ← HX.out, tw_no (by have := of_decide_eq_false HB'.out; omega)]; rfl, rfl⟩
        · have hb := of_decide_eq_true HB'.out
          have hw2 : wrap64 (a0 + a1) = a0 + a1 := by unfold wrap64; omega
          by_cases hs : a0 + a1 ≤ 4096
          · go_wp2_with (first
              | (go_at_call_of 40 (Value.int .i64 a0); go_must (refine (HVA.out _).mono ?_); rintro e wV ⟨rfl, hw⟩; subst wV)
              | (go_at_call_of 40 (Value.int .i64 a1); go_must (refine (HVB.out _).mono ?_); rintro e wV ⟨rfl, hw⟩; subst wV))
            go_meet
            exact ⟨by rw [← HBX.out, ← HX.out, tw_yes ha hb hs]; simp; omega, rfl⟩
          · go_wp2_with (first
              | (go_at_call_of 40 (Value.int .i64 a0); go_must (refine (HVA.out _).mono ?_); rintro e wV ⟨rfl, hw⟩; subst wV)
              | (go_at_call_of 40 (Value.int .i64 a1); go_must (refine (HVB.out _).mono ?_); rintro e wV ⟨rfl, hw⟩; subst wV))
            go_meet
            exact ⟨by rw [← HBX.out, ← HX.out, tw_no (by omega)]; simp [hs], rfl⟩
  case rest =>
    obtain ⟨rfl, hw⟩ := hcut
    subst hw
    go_upto_if 49 with fail
    go_cut [9] from 50 (fun c wx => c = .int .i64 X ∧ wA.alloc (.cells #[ownC a0, ownC a1] 87) = wx)
    case first =>
      as_aux_lemma =>
        cases bX
        · obtain ⟨_, _, _, hx4⟩ := tw_pos HX.out (by have := HBX.out; simpa using this)
          have HX4 := Lib.hid hx4
          have hw2 : wrap64 (a0 + a1) = a0 + a1 := by unfold wrap64; omega
          clear hx4
          go_wp2
          go_meet
          exact ⟨by rw [HX4.out], rfl⟩
        · have hx0 : X = 0 := by have := HBX.out; simpa using this
          go_wp2
          go_meet
          exact ⟨by rw [hx0], rfl⟩
    case rest =>
      obtain ⟨rfl, hw⟩ := hcut
      subst hw
      go_upto_region 10 with fail
      go_cut [77] from 58 (fun c wx => c = .bool (!bY) ∧ (wA.alloc (.cells #[ownC a0, ownC a1] 87)).alloc (.cells #[.int .i64 a2, ownC a0] 89) = wx)
      case first =>
        as_aux_lemma =>
          cases va
          · go_wp2_with (go_at_call_of 40 (Value.int .i64 a0); go_must (refine (HVA.out _).mono ?_); rintro e wV ⟨rfl, hw⟩; subst wV)
            go_meet
            exact ⟨by rw [← HBY.out, ← HY.out, vs_no (of_decide_eq_false HA'.out), aw_bad (.inl rfl)]; rfl, rfl⟩
          · obtain ⟨ha1, ha2⟩ := of_decide_eq_true HA'.out
            have HA1 := Lib.hid ha1
            have HA2 := Lib.hid ha2
            have ha0 : ¬ a0 = 0 := by omega
            have HQX : Hid (wrap64 (Int.tdiv 4096 a0) = 4096 / a0) := Lib.hid (by
              have h1 := Int.ediv_nonneg (a := 4096) (b := a0) (by omega) (by omega)
              have h2 := Int.ediv_le_self (a := 4096) a0 (by omega)
              rw [Int.tdiv_eq_ediv_of_nonneg (by omega)]
              unfold wrap64
              omega)
            obtain ⟨Q, hQ⟩ : ∃ Q, 4096 / a0 = Q := ⟨_, rfl⟩
            rw [hQ] at HQX
            have HQ := Lib.hid hQ
            have hqx := HQX.out
            clear ha1 ha2 hQ
            by_cases hn0 : 0 ≤ a2
            · by_cases hnq : a2 ≤ Q
              · have hm0 : 0 ≤ a2 * a0 := Int.mul_nonneg hn0 (by have := HA1.out; omega)
                have hm1 : a2 * a0 ≤ 4096 := Int.le_trans (Int.mul_le_mul_of_nonneg_right hnq (by have := HA1.out; omega)) (by rw [← HQ.out]; exact Int.ediv_mul_le 4096 (by have := HA1.out; omega))
                have hww1 : wrap64 (a2 * a0) = a2 * a0 := by unfold wrap64; omega
                have hww2 : wrap64 (1 + a2 * a0) = 1 + a2 * a0 := by unfold wrap64; omega
                by_cases hs : 1 + a2 * a0 ≤ 4096
                · go_wp2_with (go_at_call_of 40 (Value.int .i64 a0); go_must (refine (HVA.out _).mono ?_); rintro e wV ⟨rfl, hw⟩; subst wV)
                  go_meet
                  exact ⟨by rw [← HBY.out, ← HY.out, aw_yes HA1.out HA2.out hn0 hs]; simp [hs]; omega, rfl⟩
                · go_wp2_with (go_at_call_of 40 (Value.int .i64 a0); go_must (refine (HVA.out _).mono ?_); rintro e wV ⟨rfl, hw⟩; subst wV)
                  go_meet
                  exact ⟨by rw [← HBY.out, ← HY.out, aw_no HA1.out HA2.out (by omega)]; simp [hs], rfl⟩
              · go_wp2_with (go_at_call_of 40 (Value.int .i64 a0); go_must (refine (HVA.out _).mono ?_); rintro e wV ⟨rfl, hw⟩; subst wV)
                go_meet
                exact ⟨by rw [← HBY.out, ← HY.out, aw_no HA1.out HA2.out (by rw [HQ.out]; omega)]; rfl, rfl⟩
            · go_wp2_with (go_at_call_of 40 (Value.int .i64 a0); go_must (refine (HVA.out _).mono ?_); rintro e wV ⟨rfl, hw⟩; subst wV)
              go_meet
              exact ⟨by rw [← HBY.out, ← HY.out, aw_no HA1.out HA2.out (by omega)]; rfl, rfl⟩
      case rest =>
        obtain ⟨rfl, hw⟩ := hcut
        subst hw
        go_upto_if 77 with fail
        go_cut [11] from 78 (fun c wx => c = .int .i64 Y ∧ (wA.alloc (.cells #[ownC a0, ownC a1] 87)).alloc (.cells #[.int .i64 a2, ownC a0] 89) = wx)
        case first =>
          as_aux_lemma =>
            cases bY
            · obtain ⟨hy1, hy2, hy3, hy4, hy5⟩ := aw_pos HY.out (by have := HBY.out; simpa using this)
              have HY5 := Lib.hid hy5
              have hww1 : wrap64 (a2 * a0) = a2 * a0 := by unfold wrap64; omega
              have hww2 : wrap64 (1 + a2 * a0) = 1 + a2 * a0 := by unfold wrap64; omega
              clear hy5
              go_wp2
              go_meet
              exact ⟨by rw [HY5.out], rfl⟩
            · have hy0 : Y = 0 := by have := HBY.out; simpa using this
              go_wp2
              go_meet
              exact ⟨by rw [hy0], rfl⟩
        case rest =>
          obtain ⟨rfl, hw⟩ := hcut
          subst hw
          go_upto_region 14 with fail
          go_cut [92] from 86 (fun c wx => c = .bool (!bZ) ∧ ((wA.alloc (.cells #[ownC a0, ownC a1] 87)).alloc (.cells #[.int .i64 a2, ownC a0] 89)).alloc (.cells #[ownC a1] 91) = wx)
          case first =>
            as_aux_lemma =>
              cases vb
              · go_wp2_with (go_at_call_of 40 (Value.int .i64 a1); go_must (refine (HVB.out _).mono ?_); rintro e wV ⟨rfl, hw⟩; subst wV)
                go_meet
                exact ⟨by rw [← HBZ.out, ← HZ.out, ow_no (by have := of_decide_eq_false HB'.out; omega)]; rfl, rfl⟩
              · have HB := Lib.hid (of_decide_eq_true HB'.out)
                by_cases hs : a1 < 4096
                · go_wp2_with (go_at_call_of 40 (Value.int .i64 a1); go_must (refine (HVB.out _).mono ?_); rintro e wV ⟨rfl, hw⟩; subst wV)
                  go_meet
                  exact ⟨by rw [← HBZ.out, ← HZ.out, ow_yes HB.out hs]; have := HB.out; simp [hs]; omega, rfl⟩
                · go_wp2_with (go_at_call_of 40 (Value.int .i64 a1); go_must (refine (HVB.out _).mono ?_); rintro e wV ⟨rfl, hw⟩; subst wV)
                  go_meet
                  exact ⟨by rw [← HBZ.out, ← HZ.out, ow_no (by omega)]; simp [hs], rfl⟩
          case rest =>
            obtain ⟨rfl, hw⟩ := hcut
            subst hw
            go_upto_if 92 with fail
            have HS3 := Lib.hid (HS0.out wA HAA.out)
            obtain ⟨w3, hw3⟩ : ∃ w3, ((wA.alloc (.cells #[ownC a0, ownC a1] 87)).alloc (.cells #[.int .i64 a2, ownC a0] 89)).alloc (.cells #[ownC a1] 91) = w3 := ⟨_, rfl⟩
            rw [hw3] at HS3
            rw [hw3]
            clear hw3 HS0 HVA HVB
            go_cut [13] from 93 (fun c wx => c = .int .i64 Z ∧ w3 = wx)
            case first =>
              as_aux_lemma =>
                cases bZ
                · obtain ⟨hz1, hz2, hz3⟩ := ow_pos HZ.out (by have := HBZ.out; simpa using this)
                  have HZ3 := Lib.hid hz3
                  have hww : wrap64 (a1 + 1) = a1 + 1 := by unfold wrap64; omega
                  clear hz3
                  go_wp2
                  go_meet
                  exact ⟨by rw [HZ3.out], rfl⟩
                · have hz0 : Z = 0 := by have := HBZ.out; simpa using this
                  go_wp2
                  go_meet
                  exact ⟨by rw [hz0], rfl⟩
            case rest =>
              obtain ⟨rfl, hw⟩ := hcut
              subst hw
              have x0 := two0 HS3.out.p
              have x1 := two1 HS3.out.p
              go_upto_if 112 with (first
                | (go_at_call 41; go_must (refine (HPW.out _).mono ?_); rintro e w4 ⟨rfl, h4⟩; have HS4 := Lib.hid (HS3.out.on h4); have y0 := two0 HS4.out.l; have y1 := two1 HS4.out.l; clear h4)
                | (go_at_call 42; go_must (refine (HLW.out _).mono ?_); rintro e w5 ⟨rfl, h5⟩; have HS5 := Lib.hid (HS4.out.on h5); have z0 := HS5.out.o.cell (o := 0) (by omega); clear h5)
                | (go_at_call 43; go_must (refine (HOW.out _).mono ?_); rintro e w6 ⟨rfl, h6⟩; have HS6 := Lib.hid (HS5.out.on h6); clear h6))
              have HS7 : Hid (AnyS W (w6.alloc (.cells #[.int .u64 3] 22)) wA.heap.size w6.heap.size a0 a1) := Lib.hid ⟨HS6.out.p.alloc _, HS6.out.o.alloc _, one_new w6 (.int .u64 3) 22, HS6.out.below.alloc HS6.out.below.size _⟩
              have hz2 : wA.heap.size + 1 + 1 < w6.heap.size := HS6.out.o.lt
              obtain ⟨w7, hw7⟩ : ∃ w7, w6.alloc (.cells #[.int .u64 3] 22) = w7 := ⟨_, rfl⟩
              have hz7 : w6.heap.size < w7.heap.size := by rw [← hw7]; simp
              rw [hw7] at HS7
              rw [hw7]
              have HZ2 := Lib.hid hz2
              have HZ7 := Lib.hid hz7
              clear hw7 HS3 HS4 HS5 HS6 HPW HLW HOW x0 x1 y0 y1 z0 hz2 hz7
              go_cut [14] from 15 (fun c wx => c = .pointer (some ⟨w6.heap.size, 0, none⟩) ∧ Hid (AnyS W wx wA.heap.size w6.heap.size a0 a1))
              case first =>
                as_aux_lemma =>
                  cases bX
                  · obtain ⟨ha, hb, hab, hq⟩ := tw_pos HX.out (by have := HBX.out; simpa using this)
                    obtain ⟨an, rfl⟩ := Int.eq_ofNat_of_zero_le (show 0 ≤ a0 by omega)
                    obtain ⟨bn, rfl⟩ := Int.eq_ofNat_of_zero_le (show 0 ≤ a1 by omega)
                    obtain ⟨q, rfl⟩ := Int.eq_ofNat_of_zero_le (show 0 ≤ X by omega)
                    have H1 : Hid (1 ≤ an ∧ 1 ≤ bn ∧ q ≤ 4096 ∧ an + bn = q) := Lib.hid ⟨by omega, by omega, by omega, by omega⟩
                    have hbx : ((q : Int) == 0) = false := by simp; omega
                    have haq : an < q := by omega
                    have hq0 : 0 < q := by omega
                    clear ha hb hab hq
                    obtain ⟨i0, hi, hz0, hz1, hz2⟩ := info_parts info64
                    have HI := Lib.hid hi
                    have HZ0 := Lib.hid hz0
                    have HZ1 := Lib.hid hz1
                    have HQM : Hid (q ≤ maxLen) := Lib.hid (by have := H1.out; simp only [maxLen]; omega)
                    have HQB : Hid (i0.bytes * q ≤ 281474976710656) := Lib.hid (by have := H1.out; rw [hz2]; omega)
                    clear hi hz0 hz1 hz2
                    have T1 : True := trivial
                    go_upto_region 28 with (first
                      | (at_make; refine wpList_make_full _ rfl _ _ 24 rfl w7.heap.size 22 i0 (.int .u64 0) 1 Try.underlying24 HI.out HZ0.out HZ1.out .i64 .i64 (q : Int) (q : Int) q rfl rfl rfl rfl HQB.out HQM.out (Nat.le_refl _) ?_; intro w8 ho8 hg8; have HM : Hid (Blk w8 w7.heap.size 22 q (fun _ => .int .u64 0)) := Lib.hid ((made_blk (OwnInts.made ho8)).resolve_left (by omega)); have HS8 := Lib.hid (HS7.out.on ((Below.refl w7.heap.size w7).grown hg8 (Nat.le_refl _) (fun k hk => by cases hk))); have HS8a := Lib.hid (HS8.out.on (al1 w8 (.cells #[.int .u64 0, .int .u64 0] 93))); have HV8 := Lib.hid (two_new w8 (.int .u64 0) (.int .u64 0) 93); have HMa := Lib.hid (HM.out.alloc (.cells #[.int .u64 0, .int .u64 0] 93)); have x0 := two0 HS8a.out.p; have x1 := two1 HS8a.out.p; have HL8 := Lib.hid HM.out.lt; clear ho8 hg8)
                      | (go_at_call 46; have tt := T1; clear T1 tt; go_must (refine (o2_enc_ok 3 4 (by omega) (by omega) an bn q H1.out.1 H1.out.2.1 H1.out.2.2.1 H1.out.2.2.2 w7.heap.size 0 q q 22 _ _ HMa (by omega)).mono ?_); rintro e w9 ⟨rfl, H9⟩; have HS9 := Lib.hid (AnyS.only HS8a.out H9.out.2 (by have := HZ2.out; have := HZ7.out; omega) (by have := HZ2.out; have := HZ7.out; omega) HZ7.out HS7.out.below.size); have HV9 := Lib.hid (H9.out.2.blk HV8.out (by have := HL8.out; omega)); have HP9 := Lib.hid (prow_of H9.out.1 H1.out.1 H1.out.2.1 H1.out.2.2.2); have y0 := two0 HS9.out.p; have y1 := two1 HS9.out.p; clear x0 x1)
                      | (go_at_call 44; go_must (refine (o2_dec_ok 3 4 (by omega) (by omega) an bn q H1.out.1 H1.out.2.1 H1.out.2.2.1 H1.out.2.2.2 w7.heap.size q 22 _ HP9 (Nat.le_refl _)).mono ?_); rintro e w10 ⟨rfl, H10⟩; have HS10 := Lib.hid (HS9.out.on H10); have HV10 := Lib.hid (blk_below HV9.out H10); have HP10 := Lib.hid (HP9.out.below H10); have v0 := two0 HV10.out; have v1 := two1 HV10.out; have f0 := HV10.out.frozen 0; have f1 := HV10.out.frozen 1; clear y0 y1 H10))
                    have HS11 : Hid (AnyS W ((w10.setCell ⟨w8.heap.size, 0, none⟩ (.int .u64 3)).setCell ⟨w8.heap.size, 1, none⟩ (.int .u64 4)) wA.heap.size w6.heap.size (an : Int) (bn : Int)) := Lib.hid (AnyS.set (AnyS.set HS10.out (by have := HZ2.out; have := HZ7.out; have := HL8.out; omega) (by have := HZ2.out; have := HZ7.out; have := HL8.out; omega) (by have := HZ7.out; have := HL8.out; omega) (by have := HS7.out.below.size; have := HL8.out; omega)) (by have := HZ2.out; have := HZ7.out; have := HL8.out; omega) (by have := HZ2.out; have := HZ7.out; have := HL8.out; omega) (by have := HZ7.out; have := HL8.out; omega) (by have := HS7.out.below.size; have := HL8.out; omega))
                    have HP11 : Hid (PRow ((w10.setCell ⟨w8.heap.size, 0, none⟩ (.int .u64 3)).setCell ⟨w8.heap.size, 1, none⟩ (.int .u64 4)) w7.heap.size 22 q 3 4 an bn) := Lib.hid (prow_set (prow_set HP10.out HL8.out) HL8.out)
                    have HV11 : Hid (Blk ((w10.setCell ⟨w8.heap.size, 0, none⟩ (.int .u64 3)).setCell ⟨w8.heap.size, 1, none⟩ (.int .u64 4)) w8.heap.size 93 2 (twoG (.int .u64 3) (.int .u64 4))) := Lib.hid (((HV10.out.set 0 (.int .u64 3)).set 1 (.int .u64 4)).ext (fun o ho => by
                      rcases (show o = 0 ∨ o = 1 by omega) with rfl | rfl <;> rfl))
                    clear v0 v1 f0 f1
                    obtain ⟨w11, hw11⟩ : ∃ w11, (w10.setCell ⟨w8.heap.size, 0, none⟩ (.int .u64 3)).setCell ⟨w8.heap.size, 1, none⟩ (.int .u64 4) = w11 := ⟨_, rfl⟩
                    rw [hw11] at HS11 HP11 HV11
                    rw [hw11]
                    clear hw11
                    have v0 := two0 HV11.out
                    have v1 := two1 HV11.out
                    have c0 := prow_c0 HP11.out
                    have ca := prow_ca HP11.out
                    have p0 := two0 HS11.out.p
                    have p1 := two1 HS11.out.p
                    obtain ⟨g11, hg11, _⟩ := HP11.out.blk
                    have HG := Lib.hid hg11
                    clear hg11
                    go_wp2_with (go_at_call 46; go_must (refine (o2_enc_great 3 10 (by omega) (by omega) an bn q H1.out.1 H1.out.2.1 H1.out.2.2.1 H1.out.2.2.2 w7.heap.size 0 q q 22 _ _ HG (by omega)).mono ?_); rintro e w12 ⟨rfl, h12⟩; have HS12 := Lib.hid (HS11.out.on h12); clear h12)
                    go_meet
                    exact ⟨rfl, HS12⟩
                  · have HX0 : Hid (tw (vs a0) (vs a1) = 0) := Lib.hid (by have := HBX.out; rw [HX.out]; simpa using this)
                    have hbx := HBX.out
                    have x0 := two0 HS7.out.p
                    have x1 := two1 HS7.out.p
                    go_wp2_with (first
                      | (go_at_call 44; go_must (refine (o2_dec_bad a0 a1 HWA HWB HX0 _).mono ?_); rintro e w8 ⟨rfl, h8⟩; have HS8 := Lib.hid ((HS7.out.on h8).on (al1 w8 (.cells #[.int .u64 0, .int .u64 0] 93))); have y0 := two0 HS8.out.p; have y1 := two1 HS8.out.p; clear h8)
                      | (go_at_call 45; go_must (refine (o2_plan_bad a0 a1 0 0 0 HWA HWB HX0 _).mono ?_); rintro e w9 ⟨rfl, h9⟩; have HS9 := Lib.hid (HS8.out.on h9); have z0 := two0 HS9.out.p; have z1 := two1 HS9.out.p; clear h9)
                      | (go_at_call 46; go_must (refine (o2_enc_bad a0 a1 3 4 HWA HWB HX0 _).mono ?_); rintro e w10 ⟨rfl, h10⟩; have HS10 := Lib.hid (HS9.out.on h10); clear h10))
                    go_meet
                    exact ⟨rfl, HS10⟩
              case rest =>
                as_aux_lemma =>
                  obtain ⟨rfl, HC⟩ := hcut
                  cases bZ
                  · obtain ⟨hb, hb2, hq⟩ := ow_pos HZ.out (by have := HBZ.out; simpa using this)
                    obtain ⟨bn, rfl⟩ := Int.eq_ofNat_of_zero_le (show 0 ≤ a1 by omega)
                    obtain ⟨q, rfl⟩ := Int.eq_ofNat_of_zero_le (show 0 ≤ Z by omega)
                    have H1 : Hid (1 ≤ bn ∧ bn + 1 = q ∧ q ≤ 4096) := Lib.hid ⟨by omega, by omega, by omega⟩
                    have hbz : ((q : Int) == 0) = false := by simp; omega
                    have hq0 : 0 < q := by omega
                    have hq1 : 1 < q := by omega
                    clear hb hb2 hq
                    obtain ⟨i0, hi, hz0, hz1, hz2⟩ := info_parts info64
                    have HI := Lib.hid hi
                    have HZ0 := Lib.hid hz0
                    have HZ1 := Lib.hid hz1
                    have HQM : Hid (q ≤ maxLen) := Lib.hid (by have := H1.out; simp only [maxLen]; omega)
                    have HQB : Hid (i0.bytes * q ≤ 281474976710656) := Lib.hid (by have := H1.out; rw [hz2]; omega)
                    clear hi hz0 hz1 hz2
                    have T1 : True := trivial
                    have HLC : Hid (wA.heap.size < wc.heap.size ∧ wA.heap.size + 1 + 1 < wc.heap.size ∧ w6.heap.size < wc.heap.size) := Lib.hid ⟨HC.out.p.lt, HC.out.o.lt, HC.out.t.lt⟩
                    go_wp2_with (first
                      | (at_make; refine wpList_make_full _ rfl _ _ 24 rfl wc.heap.size 22 i0 (.int .u64 0) 1 Try.underlying24 HI.out HZ0.out HZ1.out .i64 .i64 (q : Int) (q : Int) q rfl rfl rfl rfl HQB.out HQM.out (Nat.le_refl _) ?_; intro w8 ho8 hg8; have HM : Hid (Blk w8 wc.heap.size 22 q (fun _ => .int .u64 0)) := Lib.hid ((made_blk (OwnInts.made ho8)).resolve_left (by omega)); have HS8 := Lib.hid (HC.out.on ((Below.refl wc.heap.size wc).grown hg8 (Nat.le_refl _) (fun k hk => by cases hk))); have o0 := HS8.out.o.cell (o := 0) (by omega); have HT8 := Lib.hid (HS8.out.t.cell (o := 0) (by omega)); have HL8 := Lib.hid HS8.out.t.lt; clear ho8 hg8)
                      | (go_at_call 48; have tt := T1; clear T1 tt; go_must (refine (o1_enc_ok 3 (by omega) bn q H1.out.1 H1.out.2.1 H1.out.2.2 ⟨w6.heap.size, 0, none⟩ wc.heap.size 0 q q 22 _ _ HT8.out HL8.out HM (by omega)).mono ?_); rintro e w9 ⟨rfl, H9⟩; have HS9 := Lib.hid (AnyS.only HS8.out H9.out.2 HLC.out.1 HLC.out.2.1 HLC.out.2.2 HC.out.below.size); have HP9 := Lib.hid (opt_of 3 bn q H9.out.1 H1.out.1 H1.out.2.1); have t0 := opt_c0 HP9.out.1 HP9.out.2 hq0; have t1 := opt_c1 HP9.out.1 HP9.out.2 hq1; have o1 := HS9.out.o.cell (o := 0) (by omega); clear o0)
                      | (go_at_call 47; go_must (refine (o1_dec_ok 3 (by omega) bn q H1.out.1 H1.out.2.1 H1.out.2.2 wc.heap.size q 22 _ _ HP9 (Nat.le_refl _)).mono ?_); rintro e w10 ⟨pp, rfl, H10⟩; have HS10 := Lib.hid (HS9.out.on H10.out.2); have HM10 := Lib.hid (blk_below HP9.out.1 H10.out.2); have cp := H10.out.1; have o2 := HS10.out.o.cell (o := 0) (by omega); clear o1 t0 t1)
                      | (go_at_call 48; go_must (refine (o1_enc_nil bn q H1.out.1 H1.out.2.1 H1.out.2.2 wc.heap.size 0 q q 22 _ _ HM10 (by omega)).mono ?_); rintro e w11 ⟨rfl, H11⟩; have HS11 := Lib.hid (AnyS.only HS10.out H11.out.2 HLC.out.1 HLC.out.2.1 HLC.out.2.2 HC.out.below.size); have s0 := nil_c H11.out.1 hq0; have s1 := nil_c H11.out.1 hq1; clear o2))
                    go_ret
                    exact ⟨rfl, HS11.out.below⟩
                  · have HZ0 : Hid (ow (vs a1) = 0) := Lib.hid (by have := HBZ.out; rw [HZ.out]; simpa using this)
                    have hbz := HBZ.out
                    have o0 := HC.out.o.cell (o := 0) (by omega)
                    go_wp2_with (first
                      | (go_at_call 47; go_must (refine (o1_dec_bad a1 HWB HZ0 _).mono ?_); rintro e w8 ⟨rfl, h8⟩; have HS8 := Lib.hid (HC.out.on h8); have o1 := HS8.out.o.cell (o := 0) (by omega); clear h8)
                      | (go_at_call 48; go_must (refine (o1_enc_bad a1 _ HWB HZ0 _).mono ?_); rintro e w9 ⟨rfl, h9⟩; have HS9 := Lib.hid (HS8.out.on h9); clear h9))
                    go_ret
                    exact ⟨rfl, HS9.out.below⟩

/-! ### the frame -/
theorem own : ownKnob Try.prog.godebug = none := by kernel_rfl
set_option maxRecDepth 100000 in
theorem calls {H : Type} {enc : TypeId × Value → H} (W : World) (base : Nat) (args : Array Value) (ds : List (DataW H)) (p : List MemPlace)
    (hval0 : ∀ (j : Nat) t v, Try.f8.params[j]? = some t → args[j]? = some v → Value.okWide Try.prog W .any base t v)
    (hA : DataW.TrodAll enc Try.prog W 0 (fun _ => true) true Try.f8.params.toList args.toList ds p) (_ : W.noneFrozen p)
    (hsz : (DataW.weightsEach Try.prog Try.f8.params.toList ds).all (· ≤ reachBytes) = true) :
    Calls Try.prog 8 args W fun e W' => e = .returned (.bool true) ∧ Below W.heap.size W W' := by
  have hval : ∀ (j : Nat) t v, Try.f8.params[j]? = some t → args[j]? = some v → Value.okWide Try.prog W .any base t v := hval0
  clear hval0
  rw [Try.params8] at hA hval hsz
  obtain ⟨v0, vs0, d0, ds0, p0, q0, hargs, rfl, rfl, h0, r'0⟩ := trodAll_cons hA
  obtain ⟨v1, vs1, d1, ds1, p1, q1, rfl, rfl, rfl, h1, r'1⟩ := trodAll_cons r'0
  obtain ⟨v2, vs2, d2, ds2, p2, q2, rfl, rfl, rfl, h2, r'2⟩ := trodAll_cons r'1
  obtain ⟨rfl, rfl, rfl⟩ := trodAll_nil r'2
  obtain rfl : args = #[v0, v1, v2] := by cases args; simp_all
  obtain ⟨a0, rfl, rfl, rfl, w0⟩ := open_int Try.underlying3 (hval 0 3 v0 rfl rfl) h0
  obtain ⟨a1, rfl, rfl, rfl, w1⟩ := open_int Try.underlying3 (hval 1 3 v1 rfl rfl) h1
  obtain ⟨a2, rfl, rfl, rfl, w2⟩ := open_int Try.underlying3 (hval 2 3 v2 rfl rfl) h2
  exact walk (W := W) a0 w0 a1 w1 a2 w2
set_option maxRecDepth 100000 in
theorem lifted (os : Os) (started : os.Started) (H : Type) (enc : TypeId × Value → H) :
    ReturnsInHanded {} Try.checked os 8 .any (Rows.recordAnySpec.pre6 enc Try.prog Try.f8 Rows.recordAnyRow.domain false) (Rows.recordAnySpec.post enc Try.prog Try.f8 false true false false) :=
  law_lifted (C := Try.checked) (s := Rows.recordAnySpec) (b := 4) own (by kernel_rfl) Try.func8 (by kernel_rfl) (by kernel_rfl) rfl Try.underlying4 rfl
    (fun ds h => by match ds, h with | [_, _, _], _ => rfl) calls os started
    (ChangeSpec.witness6 (enc := enc) (C := Try.checked) false ⟨#[], #[.int .i64 0, .int .i64 0, .int .i64 0], []⟩ 8 (by kernel_rfl) (by kernel_rfl) (by kernel_rfl) (by kernel_rfl))
/-- ████ THE STATEMENT ████ -/
theorem proved : Rows.RecordAnySaid :=
  OpenClaim.holds_of_wide 8 Try.f8 rfl rfl rfl rfl rfl rfl rfl ⟨rfl, rfl, rfl, rfl, rfl⟩ rfl rfl rfl rfl rfl (by kernel_rfl) Try.func8 (by kernel_rfl)
    (of_decide_eq_true (by kernel_rfl)) (by unfold Func.isWrapper; first | (rw [if_pos (by decide +kernel)]; kernel_rfl) | (rw [if_neg (by decide +kernel)]; exact ⟨rfl, rfl⟩))
    (fun os started H enc _ => lifted os started H enc)
#print axioms proved
end Go.Proofs.Ytopnkhalmembhaa.recordAny
