/-
  DEVICE, A LINE IN THE LINES' BLOCK: (*line).persist, persistTo.
-/
import Derived.Test.YtcoknkhgilbpdaaDAfter
set_option linter.unusedVariables false
set_option linter.unusedSimpArgs false
namespace Go.Proofs.Ytcoknkhgilbpdaa.Dev
open Go.ChangeShapes Go.WideShapes Go.ChangeAt Go.RowKit Go.Proofs.Ytcoknkhgilbpdaa.Mem
theorem Hist.setOther {w : World} {base : Nat} {v : Value} {hs : List (Nat × Nat)} (h : Hist w base v hs) {a : Addr} (hne : v.ownBlock ≠ some a.block) (u : Value) : Hist (w.setCell a u) base v hs :=
  h.of_block fun g hg => heap_setCell_other w a g u (fun e => hne (by rw [hg, e]))
theorem Hist.below {w w' : World} {base B : Nat} {v : Value} {hs : List (Nat × Nat)} (h : Hist w base v hs) (hb : Below B w w') (hB : w.heap.size ≤ B) : Hist w' base v hs :=
  h.of_block fun g hg => hb.block g (Nat.lt_of_lt_of_le (h.lt g hg).2 hB)
set_option maxRecDepth 100000 in
set_option maxHeartbeats 400000 in
theorem persist_any (w : World) (lb N q k gone base : Nat) (hv : Value) (b : Nat → Nat) (hs : List (Nat × Nat)) (g : Nat → Value) (hB : Blk w lb 184 N g) (hq : q + 18 ≤ N) (hb : ∀ j, j < 8 → g (q + j) = wordG b j) (hg : g (q + 16) = hv)
    (hgo : g (q + 17) = .int .u64 (gone : Int)) (hown : Hist w base hv hs) (hne : hv.ownBlock ≠ some lb) (hk : k ≤ hs.length) (hF : Fine hs) (hsum : gone + hs.length ≤ 4294967295) :
    Calls Try.prog 96 #[.pointer (some ⟨lb, q, none⟩), .int .i64 (k : Int)] w fun e w' => e = .returned (.tuple #[]) ∧ ∃ hv' g', Hid (Blk w' lb 184 N g' ∧ (∀ o, o < q ∨ q + 18 ≤ o → g' o = g o) ∧ (∀ j, j < 8 → g' (q + j) = wordG (applyW b (hs.take k)) j) ∧
      (∀ j, j < 8 → g' (q + 8 + j) = g (q + 8 + j)) ∧ g' (q + 16) = hv' ∧ g' (q + 17) = .int .u64 ((gone + k : Nat) : Int) ∧ Hist w' base hv' (hs.drop k) ∧ Only (fun b => b = lb ∨ hv.ownBlock = some b) w w' ∧ hv'.ownBlock = hv.ownBlock) := by
  have HA := Lib.hid (after_any w lb N q k base hv b hs g hB hq hb hg hown hk hF)
  obtain ⟨F, hFF⟩ : ∃ F, applyW b (hs.take k) = F := ⟨_, rfl⟩
  rw [hFF] at HA ⊢
  have HB := Lib.hid hB
  have HG := Lib.hid hg
  have HGO := Lib.hid hgo
  have HOWN := Lib.hid hown
  have HNE := Lib.hid hne
  clear hB hb hg hgo hown hne hF hFF
  go_enter Try.func96, Try.ntmps96
  go_wp2_with (go_at_call 103; refine HA.out.mono ?_; rintro e w1 ⟨he, hb1⟩; simp only [words8, wordG] at he; subst he; have HB1 := Lib.hid (HB.out.below hb1 HB.out.lt); have HO1 := Lib.hid (HOWN.out.below hb1 (Nat.le_refl _)); have HBL := Lib.hid hb1; clear hb1; have c0 := HB1.out.cell (o := q + 0) (by omega); have z0 := HB1.out.frozen (q + 0); have c1 := HB1.out.cell (o := q + 1) (by omega); have z1 := HB1.out.frozen (q + 1); have c2 := HB1.out.cell (o := q + 2) (by omega); have z2 := HB1.out.frozen (q + 2); have c3 := HB1.out.cell (o := q + 3) (by omega); have z3 := HB1.out.frozen (q + 3); have c4 := HB1.out.cell (o := q + 4) (by omega); have z4 := HB1.out.frozen (q + 4); have c5 := HB1.out.cell (o := q + 5) (by omega); have z5 := HB1.out.frozen (q + 5); have c6 := HB1.out.cell (o := q + 6) (by omega); have z6 := HB1.out.frozen (q + 6); have c7 := HB1.out.cell (o := q + 7) (by omega); have z7 := HB1.out.frozen (q + 7); have c16 := HB1.out.cell (o := q + 16) (by omega); have z16 := HB1.out.frozen (q + 16); have c17 := HB1.out.cell (o := q + 17) (by omega); have z17 := HB1.out.frozen (q + 17); rw [Nat.add_zero] at c0 z0; rw [HG.out] at c16; rw [HGO.out] at c17)
  obtain ⟨wc, hwc⟩ : ∃ wc, wc = ((((((((w1.setCell ⟨lb, q, none⟩ (.int .u64 (F 0 : Int))).setCell ⟨lb, q + 1, none⟩ (.int .u64 (F 1 : Int))).setCell ⟨lb, q + 2, none⟩ (.int .u64 (F 2 : Int))).setCell ⟨lb, q + 3, none⟩ (.int .u64 (F 3 : Int))).setCell ⟨lb, q + 4, none⟩ (.int .u64 (F 4 : Int))).setCell ⟨lb, q + 5, none⟩ (.int .u64 (F 5 : Int))).setCell ⟨lb, q + 6, none⟩ (.int .u64 (F 6 : Int))).setCell ⟨lb, q + 7, none⟩ (.int .u64 (F 7 : Int))) := ⟨_, rfl⟩
  rw [← hwc]
  have OC : Only (fun b => b = lb ∨ hv.ownBlock = some b) w wc := by rw [hwc]; exact (((((((((Only.ofBelow HBL.out _).set _ _ (.inl (.inl rfl))).set _ _ (.inl (.inl rfl))).set _ _ (.inl (.inl rfl))).set _ _ (.inl (.inl rfl))).set _ _ (.inl (.inl rfl))).set _ _ (.inl (.inl rfl))).set _ _ (.inl (.inl rfl))).set _ _ (.inl (.inl rfl)))
  have HC : Hist wc base hv hs := by rw [hwc]; exact ((((((((HO1.out.setOther HNE.out _).setOther HNE.out _).setOther HNE.out _).setOther HNE.out _).setOther HNE.out _).setOther HNE.out _).setOther HNE.out _).setOther HNE.out _)
  have BC : ∃ gc, Blk wc lb 184 N gc ∧ (∀ o, o < q ∨ q + 8 ≤ o → gc o = g o) ∧ ∀ j, j < 8 → gc (q + j) = wordG F j := by
    rw [hwc]
    refine ⟨_, ((((((((HB1.out.set _ _).set _ _).set _ _).set _ _).set _ _).set _ _).set _ _).set _ _), fun o ho => ?_, fun j hj => ?_⟩
    · simp only [upd]
      repeat (rw [if_neg (by omega)])
    · match j, hj with
      | 0, _ => simp [upd, wordG]
      | 1, _ => simp [upd, wordG]
      | 2, _ => simp [upd, wordG]
      | 3, _ => simp [upd, wordG]
      | 4, _ => simp [upd, wordG]
      | 5, _ => simp [upd, wordG]
      | 6, _ => simp [upd, wordG]
      | 7, _ => simp [upd, wordG]
  obtain ⟨gc, BC, hgc1, hgc2⟩ := BC
  clear hwc HB1 HO1 HBL c0 c1 c2 c3 c4 c5 c6 c7 z0 z1 z2 z3 z4 z5 z6 z7 c16 z16 c17 z17
  refine (delete_any wc base hv hs k HC hk).mono ?_
  rintro e w2 ⟨v', rfl, HD⟩
  have hform : ∃ A n c, v' = .slice A n c := by
    rcases HD.out.1.form with ⟨rfl, _⟩ | ⟨gb, cap, cur, rfl, _⟩
    · exact ⟨_, _, _, rfl⟩
    · exact ⟨_, _, _, rfl⟩
  obtain ⟨A, n', c', rfl⟩ := hform
  have B2 : Blk w2 lb 184 N gc := HD.out.2.1.blk BC (fun e => HNE.out e)
  have c16 := B2.cell (o := q + 16) (by omega)
  have c17 := B2.cell (o := q + 17) (by omega)
  have z16 := B2.frozen (q + 16)
  have z17 := B2.frozen (q + 17)
  rw [hgc1 _ (by omega), HG.out] at c16
  rw [hgc1 _ (by omega), HGO.out] at c17
  have HB2 := Lib.hid B2
  have HOC := Lib.hid OC
  have HG1 := Lib.hid hgc1
  have HG2 := Lib.hid hgc2
  clear B2 OC HC BC hgc1 hgc2
  go_wp2
  go_end0
  refine ⟨rfl, .slice A n' c', _, Lib.hid ⟨((HB2.out.set _ _).set _ _), fun o ho => ?_, fun j hj => ?_, fun j hj => ?_, ?_, ?_, ?_, ?_, ?_⟩⟩
  · rw [upd_other _ _ (by omega), upd_other _ _ (by omega)]; exact HG1.out o (by omega)
  · rw [upd_other _ _ (by omega), upd_other _ _ (by omega)]; exact HG2.out j hj
  · rw [upd_other _ _ (by omega), upd_other _ _ (by omega)]; exact HG1.out _ (by omega)
  · rw [upd_other _ _ (by omega), upd_same]
  · rw [upd_same]; simp
  · refine ((HD.out.1.setOther ?_ _).setOther ?_ _) <;> (rw [HD.out.2.2]; exact HNE.out)
  · exact (HOC.out.trans (HD.out.2.1.mono fun b hb => .inr hb)).set _ _ (.inl (.inl rfl)) |>.set _ _ (.inl (.inl rfl))
  · exact HD.out.2.2
set_option maxRecDepth 100000 in
theorem persistTo_any (w : World) (lb N q pos gone base : Nat) (hv : Value) (b : Nat → Nat) (hs : List (Nat × Nat)) (g : Nat → Value) (hB : Blk w lb 184 N g) (hq : q + 18 ≤ N) (hb : ∀ j, j < 8 → g (q + j) = wordG b j) (hg : g (q + 16) = hv)
    (hgo : g (q + 17) = .int .u64 (gone : Int)) (hown : Hist w base hv hs) (hne : hv.ownBlock ≠ some lb) (hk : pos ≤ gone + hs.length) (hF : Fine hs) (hsum : gone + hs.length ≤ 4294967295) :
    Calls Try.prog 81 #[.pointer (some ⟨lb, q, none⟩), .int .u64 (pos : Int)] w fun e w' => e = .returned (.tuple #[]) ∧ ∃ hv' g', Hid (Blk w' lb 184 N g' ∧ (∀ o, o < q ∨ q + 18 ≤ o → g' o = g o) ∧ (∀ j, j < 8 → g' (q + j) = wordG (applyW b (hs.take (pos - gone))) j) ∧
      (∀ j, j < 8 → g' (q + 8 + j) = g (q + 8 + j)) ∧ g' (q + 16) = hv' ∧ g' (q + 17) = .int .u64 ((gone + (pos - gone) : Nat) : Int) ∧ Hist w' base hv' (hs.drop (pos - gone)) ∧ Only (fun b => b = lb ∨ hv.ownBlock = some b) w w' ∧ hv'.ownBlock = hv.ownBlock) := by
  have c17 := hB.cell (o := q + 17) (by omega)
  rw [hgo] at c17
  by_cases hlt : gone < pos
  · have HP := Lib.hid (persist_any w lb N q (pos - gone) gone base hv b hs g hB hq hb hg hgo hown hne (by omega) hF hsum)
    have hsub : (pos : Int) - (gone : Int) = ((pos - gone : Nat) : Int) := by omega
    clear hB hb hg hgo hown hne hF
    obtain ⟨k, hk2⟩ : ∃ k, pos - gone = k := ⟨_, rfl⟩
    rw [hk2] at hsub HP ⊢
    have hkb : k ≤ 4294967295 := by omega
    clear hk2
    go_enter Try.func81, Try.ntmps81
    go_wp2_with (go_at_call 96; refine HP.out.mono ?_; rintro e w1 ⟨rfl, HQ⟩)
    go_end0
    exact ⟨rfl, HQ⟩
  · have h0 : pos - gone = 0 := by omega
    rw [h0]
    have HQ : Hid (Blk w lb 184 N g ∧ (∀ o, o < q ∨ q + 18 ≤ o → g o = g o) ∧ (∀ j, j < 8 → g (q + j) = wordG (applyW b (hs.take 0)) j) ∧
      (∀ j, j < 8 → g (q + 8 + j) = g (q + 8 + j)) ∧ g (q + 16) = hv ∧ g (q + 17) = .int .u64 ((gone + 0 : Nat) : Int) ∧ Hist w base hv (hs.drop 0) ∧ Only (fun b => b = lb ∨ hv.ownBlock = some b) w w ∧ hv.ownBlock = hv.ownBlock) :=
      Lib.hid ⟨hB, fun _ _ => rfl, fun j hj => by rw [List.take_zero]; exact hb j hj, fun _ _ => rfl, hg, hgo, by rw [List.drop_zero]; exact hown, Only.refl _ _, rfl⟩
    clear hB hb hg hgo hown hne hF h0
    go_enter Try.func81, Try.ntmps81
    go_wp2
    go_end0
    obtain ⟨q1, _, q3, _, q5, q6, q7, q8, _⟩ := HQ.out
    exact ⟨rfl, hv, g, Lib.hid ⟨q1, fun _ _ => rfl, by simpa using q3, fun _ _ => rfl, q5, by simpa using q6, by simpa using q7, q8, rfl⟩⟩
end Go.Proofs.Ytcoknkhgilbpdaa.Dev
