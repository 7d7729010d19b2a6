/-
  CONTRACTS: Decode of a valid Pair of own.
-/
import Derived.Test.YtopnkhalmembhaaRecOwnI
set_option linter.unusedVariables false
set_option linter.unusedSimpArgs false
namespace Go.Proofs.Ytopnkhalmembhaa.Rec
open Go.ChangeShapes Go.WideShapes Go.ChangeAt Go.RowKit Go.Proofs.Ytopnkhalmembhaa.Mem Go.Proofs.Ytopnkhalmembhaa.Law Go.Proofs.Ytopnkhalmembhaa.Args Go.Proofs.Ytopnkhalmembhaa.Own
theorem below_two {a b c : World} (h1 : Below a.heap.size a b) (h2 : Below b.heap.size b c) : Below a.heap.size a c := h1.trans (h2.mono h1.size)
set_option maxRecDepth 100000 in
set_option maxHeartbeats 2000000 in
theorem o2_dec_ok (x y : Int) (hx : x ≤ 9) (hy : y ≤ 9) (a b q : Nat) (ha : 1 ≤ a) (hb : 1 ≤ b) (hq : q ≤ 4096) (hab : a + b = q) (tb c : Nat) (T : TypeId) (w : World) (H : Hid (PRow w tb T q x y a b)) (hc : q ≤ c) :
    Calls Try.prog 44 #[o2 (a : Int) (b : Int), .slice (some ⟨tb, 0, none⟩) q c] w fun e w' => e = .returned (.tuple #[.agg #[.int .u64 x, .int .u64 y], .bool true]) ∧ Below w.heap.size w w' := by
  have HBX : Hid (∀ w1, Below ((w.alloc (.cells #[ownC (a : Int), ownC (b : Int)] 87)).alloc (.cells #[.int .u64 0, .int .u64 0] 93)).heap.size ((w.alloc (.cells #[ownC (a : Int), ownC (b : Int)] 87)).alloc (.cells #[.int .u64 0, .int .u64 0] 93)) w1 → Blk w1 (w.heap.size + 1) 93 2 (twoG (.int .u64 0) (.int .u64 0)) ∧ Blk w1 w.heap.size 87 2 (twoG (ownC (a : Int)) (ownC (b : Int)))) := Lib.hid (fun w1 h => ⟨blk_below (by
    have := two_new (w.alloc (.cells #[ownC (a : Int), ownC (b : Int)] 87)) (.int .u64 0) (.int .u64 0) 93
    simpa using this) h, blk_below ((two_new w (ownC (a : Int)) (ownC (b : Int)) 87).alloc _) h⟩)
  have HAB := Lib.hid hab
  have haq : a ≤ q := by omega
  have hac : a ≤ c := by omega
  have hca : ¬ c = a := by omega
  have HSZ := Lib.hid (fun w => o2_sizes_ok a b q ha hb hq hab w)
  have HX9 := Lib.hid hx
  have HY9 := Lib.hid hy
  have HA1 := Lib.hid ha
  have HB1' := Lib.hid hb
  have HQ := Lib.hid hq
  have HQA : Hid (q - a = b) := Lib.hid (by omega)
  clear hab hx hy hb hq
  go_enter Try.func44, Try.ntmps44
  go_wp2_with (first
    | (go_at_call 69; refine (HSZ.out _).mono ?_; rintro e w1 ⟨rfl, H1⟩; have HX1 := Lib.hid (HBX.out w1 H1); have HB1 := Lib.hid (Below.after (al2 w _ _) H1))
    | (go_at_call 66; refine (fills_yes (some ⟨tb, 0, none⟩) q c (q : Int) _ (by omega) rfl).mono ?_; rintro e w2 ⟨rfl, rfl⟩))
  have p0 := two0 HX1.out.2
  have HR1 := Lib.hid (fun w2 (h : Below w1.heap.size w1 w2) => (H.out.below HB1.out).below h)
  clear H1
  go_cut [8, 9] from 21 (fun c8 c9 wx => c8 = .int .u64 x ∧ c9 = .bool true ∧ Hid (Below w1.heap.size w1 wx))
  case first =>
    go_region_with (go_at_call 72; refine (dec_own_yes x a c (tb + 1) (some ⟨tb, 0, none⟩) _ HX9.out HA1.out (by have := HQ.out; omega) (Lib.hid (HR1.out _ (by first | exact Below.refl _ _ | exact below_draws (Below.refl _ _) _)).head) (HR1.out _ (by first | exact Below.refl _ _ | exact below_draws (Below.refl _ _) _)).lt).mono ?_; rintro e w3 ⟨rfl, H3⟩; have HE3 : Hid (Below w1.heap.size w1 w3) := Lib.hid (by first | exact H3 | exact (below_draws (Below.refl _ _) _).trans H3); clear H3)
    all_goals (go_wp2; go_meet; exact ⟨rfl, rfl, HE3⟩)
  case rest =>
    obtain ⟨rfl, rfl, HC⟩ := hcut
    have HX2 := Lib.hid (And.intro (blk_below HX1.out.1 HC.out) (blk_below HX1.out.2 HC.out))
    have p1 := two1 HX2.out.2
    have HR2 := Lib.hid (fun w2 h => HR1.out w2 (below_two HC.out h))
    clear p0
    go_wp2
    go_cut [9, 10] from 33 (fun c9 c10 wx => c9 = .bool true ∧ c10 = .int .u64 y ∧ Hid (Below w1.heap.size w1 wx))
    case first =>
      go_region_with (go_at_call 72; rw [HQA.out]; refine (dec_own_yes y b (c - a) (tb + 1) (some ⟨tb, a, none⟩) _ HY9.out HB1'.out (by have := HQ.out; have := HAB.out; omega) (Lib.hid (HR2.out _ (by first | exact Below.refl _ _ | exact below_draws (Below.refl _ _) _)).tail) (HR2.out _ (by first | exact Below.refl _ _ | exact below_draws (Below.refl _ _) _)).lt).mono ?_; rintro e w3 ⟨rfl, H3⟩; have HE3 : Hid (Below w1.heap.size w1 w3) := Lib.hid (below_two HC.out (by first | exact H3 | exact (below_draws (Below.refl _ _) _).trans H3)); clear H3)
      all_goals (go_wp2; go_meet; exact ⟨rfl, rfl, HE3⟩)
    case rest =>
      obtain ⟨rfl, rfl, HC2⟩ := hcut
      have HX3 := Lib.hid (blk_below HX1.out.1 HC2.out)
      have x0 := two0 HX3.out
      have x1 := two1 HX3.out
      have z0 := HX3.out.frozen 0
      have z1 := HX3.out.frozen 1
      have HB3 := Lib.hid (below_two HB1.out HC2.out)
      clear p1 HX1 HX2 HR1 HR2 HSZ
      go_wp2
      have HY : Blk ((wc.setCell ⟨w.heap.size + 1, 0, none⟩ (.int .u64 x)).setCell ⟨w.heap.size + 1, 1, none⟩ (.int .u64 y)) (w.heap.size + 1) 93 2 (twoG (.int .u64 x) (.int .u64 y)) := ((HX3.out.set 0 (.int .u64 x)).set 1 (.int .u64 y)).ext (fun o ho => by
        rcases (show o = 0 ∨ o = 1 by omega) with rfl | rfl <;> rfl)
      have y0 := two0 HY
      have y1 := two1 HY
      have HBE : Below w.heap.size w ((wc.setCell ⟨w.heap.size + 1, 0, none⟩ (.int .u64 x)).setCell ⟨w.heap.size + 1, 1, none⟩ (.int .u64 y)) := (HB3.out.setCell (by simp) _).setCell (by simp) _
      generalize (wc.setCell ⟨w.heap.size + 1, 0, none⟩ (.int .u64 x)).setCell ⟨w.heap.size + 1, 1, none⟩ (.int .u64 y) = ws at *
      refine bodyPost_ret (v := .tuple #[.agg #[.int .u64 x, .int .u64 y], .bool true]) (by simp [results, Try.results44, go_sem, y0, y1]) rfl ?_
      exact ⟨rfl, HBE⟩
end Go.Proofs.Ytopnkhalmembhaa.Rec
