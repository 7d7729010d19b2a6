/-
  CONTRACTS: Encode of a valid Pair of own whose second value cannot be represented.
-/
import Derived.Test.YtopnkhalmembhaaRecOwnD
set_option linter.unusedVariables false
set_option linter.unusedSimpArgs false
namespace Go.Proofs.Ytopnkhalmembhaa.Rec
open Go.ChangeShapes Go.WideShapes Go.ChangeAt Go.RowKit Go.Proofs.Ytopnkhalmembhaa.Mem Go.Proofs.Ytopnkhalmembhaa.Law Go.Proofs.Ytopnkhalmembhaa.Args Go.Proofs.Ytopnkhalmembhaa.Own
set_option maxRecDepth 100000 in
set_option maxHeartbeats 4000000 in
theorem o2_enc_great (x y : Int) (hx : x ≤ 9) (hy : 9 < y) (a b q : Nat) (ha : 1 ≤ a) (hb : 1 ≤ b) (hq : q ≤ 4096) (hab : a + b = q) (tb off cap nn : Nat) (T : TypeId) (g : Nat → Value) (w : World) (H : Hid (Blk w tb T nn g)) (hoff : off + q ≤ nn) :
    Calls Try.prog 46 #[o2 (a : Int) (b : Int), .agg #[.int .u64 x, .int .u64 y], .slice (some ⟨tb, off, none⟩) q cap] w fun e w' => e = .returned (.bool false) ∧ Below w.heap.size w w' := by
  obtain ⟨i0, hi, hz0, hz1, hz2⟩ := info_parts info64
  have HI := Lib.hid hi
  have HZ0 := Lib.hid hz0
  have HZ1 := Lib.hid hz1
  have HZ2 := Lib.hid hz2
  have hlt := H.out.lt
  have HLT := Lib.hid hlt
  have HBX : Hid (∀ w1, Below ((w.alloc (.cells #[ownC (a : Int), ownC (b : Int)] 87)).alloc (.cells #[.int .u64 x, .int .u64 y] 93)).heap.size ((w.alloc (.cells #[ownC (a : Int), ownC (b : Int)] 87)).alloc (.cells #[.int .u64 x, .int .u64 y] 93)) w1 → Blk w1 (w.heap.size + 1) 93 2 (twoG (.int .u64 x) (.int .u64 y)) ∧ Blk w1 w.heap.size 87 2 (twoG (ownC (a : Int)) (ownC (b : Int)))) := Lib.hid (fun w1 h => ⟨blk_below (by
    have := two_new (w.alloc (.cells #[ownC (a : Int), ownC (b : Int)] 87)) (.int .u64 x) (.int .u64 y) 93
    simpa using this) h, blk_below ((two_new w (ownC (a : Int)) (ownC (b : Int)) 87).alloc _) h⟩)
  have HAB := Lib.hid hab
  have haq : a ≤ q := by omega
  have haq2 : a < q := by omega
  have haq3 : ¬ q = a := by omega
  have hq1 : 1 ≤ q := by omega
  have HQM : Hid (q ≤ maxLen) := Lib.hid (by simp only [maxLen]; omega)
  have HQB : Hid (i0.bytes * q ≤ 281474976710656) := Lib.hid (by rw [HZ2.out]; omega)
  have HQA : Hid (q - a = b) := Lib.hid (by omega)
  have HSZ := Lib.hid (fun w => o2_sizes_ok a b q ha hb hq hab w)
  have HX9 := Lib.hid hx
  have HY9 := Lib.hid hy
  clear hi hz0 hz1 hz2 hab hx hy
  go_enter Try.func46, Try.ntmps46
  go_wp2_with (first
    | (go_at_call 69; refine (HSZ.out _).mono ?_; rintro e w1 ⟨rfl, H1⟩; have HX1 := Lib.hid (HBX.out w1 H1); have HB1 := Lib.hid (Below.after (al2 w _ _) H1); have hsz1 : w.heap.size + 1 < w1.heap.size := HX1.out.1.lt)
    | (go_at_call 66; refine (fills_yes (some ⟨tb, off, none⟩) q cap (q : Int) _ (by omega) rfl).mono ?_; rintro e w2 ⟨rfl, rfl⟩)
    | (at_make; refine wpList_make_full _ rfl _ _ 24 rfl w1.heap.size 22 i0 (.int .u64 0) 1 Try.underlying24 HI.out HZ0.out HZ1.out .i64 .i64 (q : Int) (q : Int) q rfl rfl rfl rfl HQB.out HQM.out (Nat.le_refl _) ?_; intro w2 ho2 hg2; have HM : Hid (Blk w2 w1.heap.size 22 q (fun _ => .int .u64 0)) := Lib.hid ((made_blk (OwnInts.made ho2)).resolve_left (by omega)); have HG2 := Lib.hid ((Below.refl w1.heap.size w1).grown hg2 (Nat.le_refl _) (fun k hk => by cases hk)); clear ho2 hg2))
  have HX2 : Hid (Blk w2 (w.heap.size + 1) 93 2 (twoG (.int .u64 x) (.int .u64 y)) ∧ Blk w2 w.heap.size 87 2 (twoG (ownC (a : Int)) (ownC (b : Int)))) := Lib.hid ⟨blk_below HX1.out.1 HG2.out, blk_below HX1.out.2 HG2.out⟩
  have HB2 : Hid (Below w.heap.size w w2) := Lib.hid (HB1.out.trans (HG2.out.mono (by omega)))
  have x0 := two0 HX2.out.1
  have x1 := two1 HX2.out.1
  have p0 := two0 HX2.out.2
  have p1 := two1 HX2.out.2
  have HW1 := Lib.hid hsz1
  clear H1
  have T1 : True := trivial
  go_cut [44] from 21 (fun c wx => c = .bool true ∧ Hid (Below w.heap.size w wx))
  case first =>
    go_region_with (first
      | (go_at_call 123; have tt := T1; clear T1 tt; refine (own_enc_at x a w1.heap.size 0 q q 22 (fun _ => .int .u64 0) _ HX9.out (by first | exact HM | exact Lib.hid HM.out.drew | exact Lib.hid (HM.out.drewN _)) ha (by omega) (by omega)).mono ?_; rintro e w3 ⟨rfl, H3⟩; have HX3 : Hid (Blk w3 (w.heap.size + 1) 93 2 (twoG (.int .u64 x) (.int .u64 y)) ∧ Blk w3 w.heap.size 87 2 (twoG (ownC (a : Int)) (ownC (b : Int)))) := Lib.hid ⟨H3.out.2.blk (by first | exact HX2.out.1 | exact HX2.out.1.drew | exact HX2.out.1.drewN _) (by omega), H3.out.2.blk (by first | exact HX2.out.2 | exact HX2.out.2.drew | exact HX2.out.2.drewN _) (by omega)⟩; have y1 := two1 HX3.out.1; have r1 := two1 HX3.out.2; have HB3 : Hid (Below w.heap.size w w3) := Lib.hid ((show Below w.heap.size w _ from by first | exact HB2.out | exact below_draws HB2.out _).trans (H3.out.2.below (by first | exact HB2.out.size | exact (below_draws HB2.out _).size) (fun b h => by omega))))
      | (go_at_call 123; rw [HQA.out]; refine (own_enc_no (b : Int) y _ b _ _ (.inr (.inr HY9.out))).mono ?_; rintro e w4 ⟨rfl, H4⟩; have HB4 : Hid (Below w.heap.size w w4) := Lib.hid (HB3.out.trans (H4.mono HB3.out.size))))
    all_goals (go_wp2; go_meet; exact ⟨rfl, HB4⟩)
  case rest =>
    obtain ⟨rfl, HR⟩ := hcut
    go_wp2
    go_ret
    exact ⟨rfl, HR.out⟩
end Go.Proofs.Ytopnkhalmembhaa.Rec
