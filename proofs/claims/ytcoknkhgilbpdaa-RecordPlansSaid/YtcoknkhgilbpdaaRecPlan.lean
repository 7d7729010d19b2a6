/-
  CONTRACTS: Plan of a name.
-/
import Derived.Test.YtcoknkhgilbpdaaRecNenc
import Derived.Test.YtcoknkhgilbpdaaRecCodec
set_option linter.unusedVariables false
set_option linter.unusedSimpArgs false
namespace Go.Proofs.Ytcoknkhgilbpdaa.Rec
open Go.ChangeShapes Go.WideShapes Go.ChangeAt Go.RowKit Go.Proofs.Ytcoknkhgilbpdaa.Mem Go.Proofs.Ytcoknkhgilbpdaa.Law Go.Proofs.Ytcoknkhgilbpdaa.Args Go.Proofs.Ytcoknkhgilbpdaa.Own Go.Proofs.Ytcoknkhgilbpdaa.PackMath
theorem infoW : (Try.prog.info? 127).map (fun i => (i.zero, i.size, i.bytes)) = some (some (.agg #[.int .u64 0, .int .u64 0]), 2, 16) := by kernel_rfl
theorem plan_bad (a0 : Int) (s : ByteArray) (w : World) (ha : 0 ≤ a0) (h : a0 % 8 ≠ 0 ∨ 18446744073709551591 < a0) :
    Calls Try.prog 62 #[.int .u64 a0, nameC, .string s] w fun e w' => e = .returned (.tuple #[.slice none 0 0, .int .i64 1]) ∧ Below w.heap.size w w' := by
  obtain ⟨q, hq⟩ : ∃ q, a0 % 8 = q := ⟨_, rfl⟩
  have htm : a0.tmod 8 = q := by rw [Int.tmod_eq_emod_of_nonneg ha]; exact hq
  rw [hq] at h
  by_cases h8 : q = 0
  · have hd : decide (18446744073709551591 < a0) = true := decide_eq_true (by omega)
    subst h8
    clear h hq
    go_enter Try.func62, Try.ntmps62
    go_wp2_with (go_at_call 84; go_must (refine (size_name _).mono ?_); rintro e w1 ⟨rfl, H1⟩)
    go_ret2
    exact ⟨rfl, H1⟩
  · clear h hq
    go_enter Try.func62, Try.ntmps62
    go_wp2_with (go_at_call 84; go_must (refine (size_name _).mono ?_); rintro e w1 ⟨rfl, H1⟩)
    go_ret2
    exact ⟨rfl, H1⟩
theorem plan_long (a0 : Int) (s : ByteArray) (w : World) (ha : 0 ≤ a0) (h8 : a0 % 8 = 0) (hx : a0 ≤ 18446744073709551591) (hs : 16 < s.size) :
    Calls Try.prog 62 #[.int .u64 a0, nameC, .string s] w fun e w' => e = .returned (.tuple #[.slice none 0 0, .int .i64 1]) ∧ Below w.heap.size w w' := by
  obtain ⟨i0, hi, hz0, hz1, hz2⟩ := info_parts info64
  have HI := Lib.hid hi
  have HZ0 := Lib.hid hz0
  have HZ1 := Lib.hid hz1
  have HQB : Hid (i0.bytes * 3 ≤ 281474976710656) := Lib.hid (by rw [hz2]; omega)
  have HQM : Hid (3 ≤ maxLen) := Lib.hid (by simp only [maxLen]; omega)
  have htm : a0.tmod 8 = 0 := by rw [Int.tmod_eq_emod_of_nonneg ha]; exact h8
  have hd : decide (18446744073709551591 < a0) = false := decide_eq_false (by omega)
  clear hi hz0 hz1 hz2
  go_enter Try.func62, Try.ntmps62
  go_wp2_with (first
    | (go_at_call 84; go_must (refine (size_name _).mono ?_); rintro e w1 ⟨rfl, H1⟩)
    | (at_make; go_must (refine wpList_make_full _ rfl _ _ 24 rfl w1.heap.size 22 i0 (.int .u64 0) 1 Try.underlying24 HI.out HZ0.out HZ1.out .i64 .i64 3 3 3 rfl rfl rfl rfl HQB.out HQM.out (Nat.le_refl _) ?_); intro w2 ho2 hg2; have HB := Lib.hid ((Below.refl w1.heap.size w1).grown hg2 (Nat.le_refl _) (fun k hk => by cases hk)); clear ho2 hg2)
    | (go_at_call 26; go_must (refine (nenc_not s _ 3 3 _ (.inr hs)).mono ?_); rintro e w3 ⟨rfl, H3⟩))
  go_ret2
  exact ⟨rfl, Below.after (Below.after H1 HB.out) H3⟩
theorem own_words {w : World} {g : Nat} (h : w.ownsRow g 127 2 (.slice (some ⟨g, 0, none⟩) 3 3) 3 (madeCells (Value.agg #[.int .u64 0, .int .u64 0]).cells (3 * 2)).toList) : Blk w g 127 6 (fun _ => .int .u64 0) := by
  rcases h.2 with ⟨h1, _⟩ | ⟨g2, cap, cur, h1, hb, hg, hnc, hcm, hcs, ht⟩
  · cases h1
  · injection h1 with h2
    injection h2 with h3
    injection h3 with h4
    subst h4
    refine ⟨cur, hg, by omega, fun o ho => ?_⟩
    have h2 : (cur.toList.take (3 * 2))[o]? = cur.toList[o]? := List.getElem?_take_of_lt (by omega)
    rw [← Array.getElem?_toList, ← h2, ht]
    rcases (show o = 0 ∨ o = 1 ∨ o = 2 ∨ o = 3 ∨ o = 4 ∨ o = 5 by omega) with rfl | rfl | rfl | rfl | rfl | rfl <;> simp [madeCells, Value.cells]
/-- The cells of the writes of words from an offset on. -/
def wrG (a : Int) (ws : List Int) : Nat → Value := fun o => if o % 2 = 0 then .int .u64 (a + 8 * (o / 2 : Nat)) else .int .u64 (ws.getD (o / 2) 0)
set_option maxRecDepth 100000 in
set_option maxHeartbeats 2000000 in
theorem plan_ok (a0 : Int) (s : ByteArray) (w : World) (ha : 0 ≤ a0) (h8 : a0 % 8 = 0) (hx : a0 ≤ 18446744073709551591) (hs : s.size ≤ 16) :
    Calls Try.prog 62 #[.int .u64 a0, nameC, .string s] w fun e w' => ∃ g, e = .returned (.tuple #[.slice (some ⟨g, 0, none⟩) 3 3, .int .i64 0]) ∧ Hid (w.heap.size ≤ g ∧ Blk w' g 127 6 (wrG a0 (nwd s)) ∧ Below w.heap.size w w') := by
  obtain ⟨i0, hi, hz0, hz1, hz2⟩ := info_parts info64
  have HI := Lib.hid hi
  have HZ0 := Lib.hid hz0
  have HZ1 := Lib.hid hz1
  have HQB : Hid (i0.bytes * 3 ≤ 281474976710656) := Lib.hid (by rw [hz2]; omega)
  have HQM : Hid (3 ≤ maxLen) := Lib.hid (by simp only [maxLen]; omega)
  have htm : a0.tmod 8 = 0 := by rw [Int.tmod_eq_emod_of_nonneg ha]; exact h8
  have hd : decide (18446744073709551591 < a0) = false := decide_eq_false (by omega)
  have hwx1 : IntKind.u64.wrap (a0 + 8) = a0 + 8 := IntWalk.u64_in _ ⟨by omega, by omega⟩
  have hwx2 : IntKind.u64.wrap (a0 + 16) = a0 + 16 := IntWalk.u64_in _ ⟨by omega, by omega⟩
  obtain ⟨x0, x1, x2, hx3⟩ := list3 (nwd s) (by simp [nwd, pks_len])
  have HX3 := Lib.hid hx3
  obtain ⟨iw, hiw⟩ : ∃ i, Try.prog.info? 127 = some i := by
    cases h : Try.prog.info? 127 with
    | none => have := infoW; rw [h] at this; cases this
    | some i => exact ⟨i, rfl⟩
  have hiv := infoW
  rw [hiw] at hiv
  simp only [Option.map_some, Option.some.injEq, Prod.mk.injEq] at hiv
  have HIW := Lib.hid hiw
  have HIV := Lib.hid hiv
  have HQW : Hid (iw.bytes * 3 ≤ 281474976710656) := Lib.hid (by rw [hiv.2.2]; omega)
  clear hi hz0 hz1 hz2 hx3 hiw hiv
  go_enter Try.func62, Try.ntmps62
  have T1 : True := trivial
  go_wp2_with (first
    | (go_at_call 84; go_must (refine (size_name _).mono ?_); rintro e w1 ⟨rfl, H1⟩)
    | (at_make; have tt := T1; clear T1 tt; go_must (refine wpList_make_full _ rfl _ _ 24 rfl w1.heap.size 22 i0 (.int .u64 0) 1 Try.underlying24 HI.out HZ0.out HZ1.out .i64 .i64 3 3 3 rfl rfl rfl rfl HQB.out HQM.out (Nat.le_refl _) ?_); intro w2 ho2 hg2; have HM : Hid (Blk w2 w1.heap.size 22 3 (fun _ => .int .u64 0)) := Lib.hid ((made_blk (OwnInts.made ho2)).resolve_left (by omega)); have HB := Lib.hid ((Below.refl w1.heap.size w1).grown hg2 (Nat.le_refl _) (fun k hk => by cases hk)); clear ho2 hg2)
    | (go_at_call 26; go_must (refine (nenc_ok s w1.heap.size 0 3 3 22 _ _ hs HM (by omega)).mono ?_); rintro e w3 ⟨rfl, H3⟩; rw [HX3.out] at H3; have HB3 := Lib.hid (Below.trans H1 ((HB.out.mono H1.size).trans (H3.out.2.below (Nat.le_trans H1.size HB.out.size) (fun b e => by rw [e]; exact H1.size)))))
    | (at_make; go_must (refine wpList_make_full _ rfl _ _ 96 rfl w3.heap.size 127 iw (.agg #[.int .u64 0, .int .u64 0]) 2 Try.underlying96 HIW.out HIV.out.1 HIV.out.2.1 .i64 .i64 3 3 3 rfl rfl rfl rfl HQW.out HQM.out (Nat.le_refl _) ?_); intro w4 ho4 hg4; have HG4 := Lib.hid ((Below.refl w3.heap.size w3).grown hg4 (Nat.le_refl _) (fun k hk => by cases hk)); have HW := Lib.hid ho4; clear ho4 hg4))
  have HBW : Hid (Blk w4 w3.heap.size 127 6 (fun _ => .int .u64 0)) := Lib.hid (own_words HW.out)
  have HBX : Hid (Blk w4 w1.heap.size 22 3 (put (fun _ => .int .u64 0) 0 ([x0, x1, x2].map (Value.int .u64)))) := Lib.hid (blk_below H3.out.1 HG4.out)
  have HB4 : Hid (Below w.heap.size w w4) := Lib.hid (HB3.out.trans (HG4.out.mono HB3.out.size))
  have hlt : w1.heap.size < w3.heap.size := H3.out.1.lt
  have hne : ¬ w1.heap.size = w3.heap.size := by omega
  have hne2 : ¬ w3.heap.size = w1.heap.size := by omega
  have hc0 : w4.cell? ⟨w1.heap.size, 0, none⟩ = some (.int .u64 x0) := HBX.out.cell (by omega)
  have hc1 : w4.cell? ⟨w1.heap.size, 1, none⟩ = some (.int .u64 x1) := HBX.out.cell (by omega)
  have hc2 : w4.cell? ⟨w1.heap.size, 2, none⟩ = some (.int .u64 x2) := HBX.out.cell (by omega)
  have d0 : w4.cell? ⟨w3.heap.size, 0, none⟩ = some (.int .u64 0) := HBW.out.cell (by omega)
  have d1 : w4.cell? ⟨w3.heap.size, 1, none⟩ = some (.int .u64 0) := HBW.out.cell (by omega)
  have d2 : w4.cell? ⟨w3.heap.size, 2, none⟩ = some (.int .u64 0) := HBW.out.cell (by omega)
  have d3 : w4.cell? ⟨w3.heap.size, 3, none⟩ = some (.int .u64 0) := HBW.out.cell (by omega)
  have d4 : w4.cell? ⟨w3.heap.size, 4, none⟩ = some (.int .u64 0) := HBW.out.cell (by omega)
  have d5 : w4.cell? ⟨w3.heap.size, 5, none⟩ = some (.int .u64 0) := HBW.out.cell (by omega)
  have f0 := HBW.out.frozen 0
  have f1 := HBW.out.frozen 1
  have f2 := HBW.out.frozen 2
  have f3 := HBW.out.frozen 3
  have f4 := HBW.out.frozen 4
  have f5 := HBW.out.frozen 5
  have HGE : Hid (w.heap.size ≤ w3.heap.size) := Lib.hid HB3.out.size
  have HFIN : Hid (∀ wx, wx = (((((w4.setCell ⟨w3.heap.size, 0, none⟩ (.int .u64 a0)).setCell ⟨w3.heap.size, 1, none⟩ (.int .u64 x0)).setCell ⟨w3.heap.size, 2, none⟩ (.int .u64 (a0 + 8))).setCell ⟨w3.heap.size, 3, none⟩ (.int .u64 x1)).setCell ⟨w3.heap.size, 4, none⟩ (.int .u64 (a0 + 16))).setCell ⟨w3.heap.size, 5, none⟩ (.int .u64 x2) → Blk wx w3.heap.size 127 6 (wrG a0 (nwd s)) ∧ Below w.heap.size w wx) := Lib.hid (fun wx e => by
    subst e
    refine ⟨((((((HBW.out.set 0 _).set 1 _).set 2 _).set 3 _).set 4 _).set 5 _).ext (fun o ho => ?_), (((((HB4.out.setCell HGE.out _).setCell HGE.out _).setCell HGE.out _).setCell HGE.out _).setCell HGE.out _).setCell HGE.out _⟩
    rw [HX3.out]
    rcases (show o = 0 ∨ o = 1 ∨ o = 2 ∨ o = 3 ∨ o = 4 ∨ o = 5 by omega) with rfl | rfl | rfl | rfl | rfl | rfl <;> simp [wrG, upd])
  clear H3 HM
  refine wp_loop_rounds 4 ?_
  rw [rounds_succ]
  go_wp2
  rw [rounds_succ]
  go_wp2
  rw [rounds_succ]
  go_wp2
  rw [rounds_succ]
  go_wp2
  go_ret2
  exact ⟨_, rfl, Lib.hid ⟨HGE.out, HFIN.out _ rfl⟩⟩
end Go.Proofs.Ytcoknkhgilbpdaa.Rec
