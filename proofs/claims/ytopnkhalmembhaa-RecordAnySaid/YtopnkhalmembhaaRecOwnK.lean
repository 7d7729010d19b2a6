/-
  CONTRACTS: Decode of a valid Option of own; the law's closure as yes or no; the law's numbers.
-/
import Derived.Test.YtopnkhalmembhaaRecOwnI
import Derived.Test.YtopnkhalmembhaaRecOwnE
set_option linter.unusedVariables false
set_option linter.unusedSimpArgs false
namespace Go.Proofs.Ytopnkhalmembhaa.Rec
open Go.ChangeShapes Go.WideShapes Go.ChangeAt Go.RowKit Go.Proofs.Ytopnkhalmembhaa.Mem Go.Proofs.Ytopnkhalmembhaa.Law Go.Proofs.Ytopnkhalmembhaa.Args Go.Proofs.Ytopnkhalmembhaa.Own
theorem valid_yes (n : Int) (w : World) (h : 1 ≤ n ∧ n ≤ 4096) : Calls Try.prog 40 #[.int .i64 n] w fun e w' => e = .returned (.bool true) ∧ w' = w := by
  have := valid_any n w
  rw [decide_eq_true h] at this
  exact this
theorem valid_no (n : Int) (w : World) (h : ¬ (1 ≤ n ∧ n ≤ 4096)) : Calls Try.prog 40 #[.int .i64 n] w fun e w' => e = .returned (.bool false) ∧ w' = w := by
  have := valid_any n w
  rw [decide_eq_false h] at this
  exact this
theorem o2_words_x (a b x : Int) (ha : Hid ((Lit.int .i64 a).wf = true)) (hb : Hid ((Lit.int .i64 b).wf = true)) (h : Hid (tw (vs a) (vs b) = x)) (w : World) :
    Calls Try.prog 41 #[o2 a b] w fun e w' => e = .returned (.int .i64 x) ∧ Below w.heap.size w w' := by
  have := o2_words a b ha.out hb.out w
  rw [h.out] at this
  exact this
theorem o1_words_x (b z : Int) (hb : Hid ((Lit.int .i64 b).wf = true)) (h : Hid (ow (vs b) = z)) (w : World) :
    Calls Try.prog 43 #[o1 b] w fun e w' => e = .returned (.int .i64 z) ∧ Below w.heap.size w w' := by
  have := o1_words b hb.out w
  rw [h.out] at this
  exact this
theorem arr_words_x (a n y : Int) (ha : Hid ((Lit.int .i64 a).wf = true)) (hn : Hid ((Lit.int .i64 n).wf = true)) (h : Hid (aw (vs a) n = y)) (w : World) :
    Calls Try.prog 42 #[.agg #[.int .i64 n, ownC a]] w fun e w' => e = .returned (.int .i64 y) ∧ Below w.heap.size w w' := by
  have := arr_words (ownC a) (vs a) n (vs_rng a).1 (vs_rng a).2 hn.out (Lib.hid (size_ownC a ha.out)) w
  rw [h.out] at this
  exact this
theorem vs_no {n : Int} (h : ¬ (1 ≤ n ∧ n ≤ 4096)) : vs n = 0 := by
  unfold vs
  split
  · exfalso; omega
  · rfl
theorem mul_le_div {n a : Int} (h1 : 1 ≤ a) : n ≤ 4095 / a ↔ n * a ≤ 4095 := Int.le_ediv_iff_mul_le (by omega)
theorem aw_no {a n : Int} (h1 : 1 ≤ a) (h2 : a ≤ 4096) (h : n < 0 ∨ 4096 / a < n ∨ 4096 < 1 + n * a) : aw (vs a) n = 0 := by
  rw [vs_ok h1 h2]
  apply aw_bad
  right
  rcases h with h | h | h
  · exact .inl h
  · right
    have := Int.ediv_le_ediv (a := 4095) (b := 4096) (c := a) (by omega) (by omega)
    omega
  · right
    have := mul_le_div (n := n) h1
    omega
theorem aw_yes {a n : Int} (h1 : 1 ≤ a) (h2 : a ≤ 4096) (h0 : 0 ≤ n) (h3 : 1 + n * a ≤ 4096) : aw (vs a) n = 1 + n * a := by
  rw [vs_ok h1 h2]
  have := mul_le_div (n := n) h1
  exact aw_ok (by omega)
theorem three_new (w : World) : (w.alloc (.cells #[.int .u64 0] 22)).cell? ⟨w.heap.size, 0, none⟩ = some (.int .u64 0) ∧ (w.alloc (.cells #[.int .u64 0] 22)).frozen? ⟨w.heap.size, 0, none⟩ = false := by
  have hb : Blk (w.alloc (.cells #[.int .u64 0] 22)) w.heap.size 22 1 (fun _ => .int .u64 0) := Blk.newOf w #[.int .u64 0] 22 rfl (fun o ho => by
    obtain rfl : o = 0 := by omega
    rfl)
  exact ⟨hb.cell (o := 0) (by omega), hb.frozen 0⟩
theorem three_newx (w : World) (x : Int) : (w.alloc (.cells #[.int .u64 x] 22)).cell? ⟨w.heap.size, 0, none⟩ = some (.int .u64 x) := by
  have hb : Blk (w.alloc (.cells #[.int .u64 x] 22)) w.heap.size 22 1 (fun _ => .int .u64 x) := Blk.newOf w #[.int .u64 x] 22 rfl (fun o ho => by
    obtain rfl : o = 0 := by omega
    rfl)
  exact hb.cell (o := 0) (by omega)
theorem three_kept {w wH : World} (h : Below (w.alloc (.cells #[.int .u64 0] 22)).drew.heap.size (w.alloc (.cells #[.int .u64 0] 22)).drew wH) :
    wH.cell? ⟨w.heap.size, 0, none⟩ = some (.int .u64 0) ∧ wH.frozen? ⟨w.heap.size, 0, none⟩ = false ∧ w.heap.size < wH.heap.size := by
  have hb : Blk (w.alloc (.cells #[.int .u64 0] 22)) w.heap.size 22 1 (fun _ => .int .u64 0) := Blk.newOf w #[.int .u64 0] 22 rfl (fun o ho => by
    obtain rfl : o = 0 := by omega
    rfl)
  have hc := blk_below hb.drew h
  exact ⟨hc.cell (o := 0) (by omega), hc.frozen 0, hc.lt⟩
set_option maxRecDepth 100000 in
set_option maxHeartbeats 2000000 in
theorem o1_dec_ok (x : Int) (hx : x ≤ 9) (b q : Nat) (hb : 1 ≤ b) (hbq : b + 1 = q) (hq : q ≤ 4096) (tb c : Nat) (T : TypeId) (g : Nat → Value) (w : World) (H : Hid (Blk w tb T q g ∧ ∀ j, j < q → g j = ((1 :: ows x (b - 1)).map (Value.int .u64)).getD j default)) (hc : q ≤ c) :
    Calls Try.prog 47 #[o1 (b : Int), .slice (some ⟨tb, 0, none⟩) q c] w fun e w' => ∃ p : Nat, e = .returned (.tuple #[.pointer (some ⟨p, 0, none⟩), .bool true]) ∧ Hid (w'.cell? ⟨p, 0, none⟩ = some (.int .u64 x) ∧ Below w.heap.size w w') := by
  have HBX : Hid (∀ w1, Below (w.alloc (.cells #[ownC (b : Int)] 91)).heap.size (w.alloc (.cells #[ownC (b : Int)] 91)) w1 → Blk w1 w.heap.size 91 1 (fun _ => ownC (b : Int))) := Lib.hid (fun w1 h => blk_below (Blk.newOf w #[ownC (b : Int)] 91 rfl (fun o ho => by
    obtain rfl : o = 0 := by omega
    rfl)) h)
  have HBQ := Lib.hid hbq
  have hbc : 1 ≤ q := by omega
  have hbc2 : 1 < q := by omega
  have hqc : 1 ≤ c := by omega
  have HSZ := Lib.hid (fun w => o1_words_ok b q hb hbq hq w)
  have HX9 := Lib.hid hx
  have HB1' := Lib.hid hb
  have HQ := Lib.hid hq
  have HQA : Hid (q - 1 = b) := Lib.hid (by omega)
  have HI : Hid (∀ w2, Below w.heap.size w w2 → IntsAt .u64 w2 (tb + 1) (some ⟨tb, 1, none⟩) (ows x (b - 1)) ∧ w2.cell? ⟨tb, 0, none⟩ = some (.int .u64 1) ∧ tb < w2.heap.size) := Lib.hid (fun w2 h2 => by
    have hg := blk_below H.out.1 h2
    refine ⟨blk_ints hg (fun i hi => ?_), ?_, hg.lt⟩
    · rw [ows_len] at hi
      refine ⟨by omega, ?_⟩
      rw [H.out.2 _ (by omega), show 1 + i = i + 1 by omega, List.map_cons, List.getD_cons_succ]
      simp only [List.getD_eq_getElem?_getD, List.getElem?_map]
      rw [List.getElem?_eq_getElem (by rw [ows_len]; omega)]
      rfl
    · rw [hg.cell (by omega), H.out.2 0 (by omega)]
      rfl)
  clear hbq hx hb hq
  go_enter Try.func47, Try.ntmps47
  go_wp2_with (first
    | (go_at_call 43; refine (HSZ.out _).mono ?_; rintro e w1 ⟨rfl, H1⟩; have HX1 := Lib.hid (HBX.out w1 H1); have HB1 := Lib.hid (Below.after (al1 w _) H1); obtain ⟨_, hc0, _⟩ := HI.out w1 HB1.out)
    | (go_at_call 66; refine (fills_yes (some ⟨tb, 0, none⟩) q c (q : Int) _ (by omega) rfl).mono ?_; rintro e w2 ⟨rfl, rfl⟩))
  have hw1 := HB1.out.size
  have hB1 := HB1.out
  have op0 := HX1.out.cell (o := 0) (by omega)
  have q0 := fun w : World => (three_new w).1
  have q1 := fun w : World => (three_new w).2
  have r0 : ∀ w : World, (w.drew.alloc (.cells #[.int .u64 0] 22)).cell? ⟨w.heap.size, 0, none⟩ = some (.int .u64 0) := fun w => (three_new w.drew).1
  have r1 : ∀ w : World, (w.drew.alloc (.cells #[.int .u64 0] 22)).frozen? ⟨w.heap.size, 0, none⟩ = false := fun w => (three_new w.drew).2
  have RA := Lib.hid (fun c => dec_own_yes x b c (tb + 1) (some ⟨tb, 1, none⟩) (w1.alloc (.cells #[.int .u64 0] 22)).drew HX9.out HB1'.out (by have := HQ.out; have := HBQ.out; omega) (Lib.hid (HI.out _ ((HB1.out.alloc HB1.out.size _).drew)).1) (HI.out _ ((HB1.out.alloc HB1.out.size _).drew)).2.2)
  have RB := Lib.hid (fun c => dec_own_yes x b c (tb + 1) (some ⟨tb, 1, none⟩) w1.drew HX9.out HB1'.out (by have := HQ.out; have := HBQ.out; omega) (Lib.hid (HI.out _ HB1.out.drew).1) (HI.out _ HB1.out.drew).2.2)
  have opa : (w1.alloc (.cells #[.int .u64 0] 22)).cell? ⟨w.heap.size, 0, none⟩ = some (ownC (b : Int)) := Lib.cell?_alloc_some _ op0
  clear hc0 H1 HSZ
  go_cut [6, 7] from 25 (fun c6 c7 wx => ∃ p : Nat, c6 = .pointer (some ⟨p, 0, none⟩) ∧ c7 = .bool true ∧ Hid (wx.cell? ⟨p, 0, none⟩ = some (.int .u64 x) ∧ Below w.heap.size w wx))
  case first =>
    go_region_with (first
      | (go_at_call 72; rw [HQA.out]; refine (RA.out _).mono ?_; rintro e wH ⟨rfl, HH⟩; obtain ⟨k0, k1, k2⟩ := three_kept HH; have hBH : Below w.heap.size w wH := (HB1.out.alloc HB1.out.size _).drew.trans (HH.mono ((HB1.out.alloc HB1.out.size _).drew.size)))
      | (go_at_call 72; rw [HQA.out]; refine (RB.out _).mono ?_; rintro e wH ⟨rfl, HH⟩; have hBH : Below w.heap.size w wH := HB1.out.drew.trans (HH.mono HB1.out.drew.size)))
    all_goals (go_wp2; go_meet; exact ⟨_, rfl, rfl, Lib.hid ⟨by first | exact World.cell?_setCell_same _ _ _ k0 | exact World.cell?_setCell_same _ _ _ (q0 _) | exact World.cell?_setCell_same _ _ _ (r0 _) | exact three_newx _ _ | exact three_newx (World.drew _) _, by repeat (first | exact hBH | refine Below.setCell ?_ (by first | exact hw1 | exact hBH.size | (simp; have := hBH.size; omega)) _ | refine Below.alloc ?_ (by first | exact hBH.size | (simp; have := hBH.size; omega)) _ | refine Below.drew ?_)⟩⟩)
  case rest =>
    obtain ⟨p, rfl, rfl, HC⟩ := hcut
    go_wp2
    go_ret2
    exact ⟨p, rfl, HC⟩
end Go.Proofs.Ytopnkhalmembhaa.Rec
