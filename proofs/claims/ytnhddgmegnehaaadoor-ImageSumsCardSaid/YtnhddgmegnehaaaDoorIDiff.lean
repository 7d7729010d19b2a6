/-
  CONTRACT OF PACKAGE image: Diff.
-/
import Derived.Test.YtnhddgmegnehaaaDoorIImg3
import Derived.Deep.Onto
set_option linter.unusedVariables false
set_option linter.unusedSimpArgs false
namespace Go.Proofs.YtnhddgmegnehaaaDoor.Base
open Go.ChangeShapes Go.WideShapes Go.ChangeAt Go.RowKit Go.Sort Go.Lib Go.Proofs.YtnhddgmegnehaaaDoor.Args Go.Proofs.YtnhddgmegnehaaaDoor.Own
theorem infoInt : (Tryd.prog.info? 3).map (fun i => (i.zero, i.size, i.bytes)) = some (some (.int .i64 0), 1, 8) := by kernel_rfl
/-- the lines below k that differ. -/
def diffZ (l m : List UInt8) (k : Nat) : List Int := ((List.range k).filter (fun n => !(lineL l n == lineL m n))).map (fun (n : Nat) => (n : Int))
theorem diffZ_zero (l m : List UInt8) : diffZ l m 0 = [] := rfl
theorem diffZ_same {l m : List UInt8} {k : Nat} (h : lineL l k = lineL m k) : diffZ l m (k + 1) = diffZ l m k := by
  unfold diffZ; rw [List.range_succ, List.filter_append]; simp [h]
theorem diffZ_other {l m : List UInt8} {k : Nat} (h : ¬ lineL l k = lineL m k) : diffZ l m (k + 1) = diffZ l m k ++ [(k : Int)] := by
  unfold diffZ; rw [List.range_succ, List.filter_append]; simp [h]
theorem diffZ_length (l m : List UInt8) (k : Nat) : (diffZ l m k).length ≤ k := by
  unfold diffZ
  have := List.length_filter_le (fun n => !(lineL l n == lineL m n)) (List.range k)
  rw [List.length_range] at this
  simpa using this
def diffAll (l m : List UInt8) : List Int := diffZ l m (max (l.length / 64) (m.length / 64))
structure Two (w : World) (l m : List UInt8) (w' : World) : Prop where
  c1 : w'.cell? ⟨w.heap.size, 0, none⟩ = some (str l)
  c2 : w'.cell? ⟨w.heap.size + 1, 0, none⟩ = some (str m)
  sz : w'.heap.size = w.heap.size + 2
  bb : Below w.heap.size w w'
theorem Two.start (w : World) (l m : List UInt8) : Two w l m ((w.alloc (.cells #[str l] 25)).alloc (.cells #[str m] 25)) := by
  have hs : (w.alloc (.cells #[str l] 25)).heap.size = w.heap.size + 1 := by simp
  have hb1 : Below w.heap.size w (w.alloc (.cells #[str l] 25)) := (Below.refl _ _).alloc (Nat.le_refl _) _
  have hb2 : Below (w.alloc (.cells #[str l] 25)).heap.size (w.alloc (.cells #[str l] 25)) ((w.alloc (.cells #[str l] 25)).alloc (.cells #[str m] 25)) := (Below.refl _ _).alloc (Nat.le_refl _) _
  refine ⟨(hb2.cell (by show w.heap.size < _; rw [hs]; omega)).trans (by rw [World.cell?_alloc_new]; rfl), ?_, by simp, hb1.trans (hb2.mono hb1.size)⟩
  rw [← hs, World.cell?_alloc_new]; rfl
set_option maxHeartbeats 1600000 in
set_option maxRecDepth 100000 in
theorem diff_any (l m : List UInt8) (w : World) (hl : l.length ≤ 4294967295) (hm : m.length ≤ 4294967295) :
    Calls Tryd.prog 25 #[img l, img m] w fun e w' => ∃ v, e = .returned v ∧ Hid (OwnInts .i64 3 w' w.heap.size v (diffAll l m) ∧ Below w.heap.size w w') := by
  have HL1 := Lib.hid (fun w => lines_any l w hl)
  have HL2 := Lib.hid (fun w => lines_any m w hm)
  have HK1 := Lib.hid (fun (n : Nat) w (h : n ≤ 4294967295) => line_any l n w hl h)
  have HK2 := Lib.hid (fun (n : Nat) w (h : n ≤ 4294967295) => line_any m n w hm h)
  obtain ⟨i0, hi, hz0, hz1, hz2⟩ := info_parts infoInt
  have HI := Lib.hid hi
  have HZ0 := Lib.hid hz0
  have HZ1 := Lib.hid hz1
  have HZ2 := Lib.hid hz2
  clear hi hz0 hz1 hz2
  obtain ⟨N, hN⟩ : ∃ N, max (l.length / 64) (m.length / 64) = N := ⟨_, rfl⟩
  have hmax : max ((l.length : Int) / 64) ((m.length : Int) / 64) = (N : Int) := by omega
  have hNle : N ≤ 67108864 := by omega
  have HD : Hid (diffAll l m = diffZ l m N) := Lib.hid (by unfold diffAll; rw [hN])
  clear hN
  obtain ⟨w0, hw0⟩ : ∃ w0, (w.alloc (.cells #[str l] 25)).alloc (.cells #[str m] 25) = w0 := ⟨_, rfl⟩
  have HT : Hid (Two w l m w0) := Lib.hid (by rw [← hw0]; exact Two.start w l m)
  have HW0 := Lib.hid hw0
  clear hw0
  go_enter Tryd.func25, Tryd.ntmps25
  go_wp2
  rw [HW0.out]
  obtain ⟨c1, c2, hsz, hbb⟩ := HT.out
  have hb1 : Below w0.heap.size w0 w0.drew := (Below.refl _ _).drew
  go_region_held3 (fun w' => w'.cell? ⟨w.heap.size, 0, none⟩ = some (str l) ∧ w'.cell? ⟨w.heap.size + 1, 0, none⟩ = some (str m) ∧ Below w0.heap.size w0 w') (first | assumption | (refine ⟨?_, ?_, ?_⟩ <;> assumption)) (first
    | (go_at_call 12; go_must (refine (lines_any _ _ (by first | exact hl | exact hm)).mono ?_); rintro e w2 ⟨rfl, hb2⟩; have q3 := ‹Below w0.heap.size w0 _›.trans (hb2.mono ‹Below w0.heap.size w0 _›.size); have q1 := (q3.cell (p := ⟨w.heap.size, 0, none⟩) (by show w.heap.size < _; omega)).trans HT.out.c1; have q2 := (q3.cell (p := ⟨w.heap.size + 1, 0, none⟩) (by show w.heap.size + 1 < _; omega)).trans HT.out.c2; clear hb2))
  have HB2 := Lib.hid q3
  clear q1 q2 c1 c2 hb1 hmax
  go_wp2
  go_loopw [5, 12] (fun v vk wr => ∃ k : Nat, k ≤ N ∧ vk = .int .i64 (k : Int) ∧ Hid (OwnInts .i64 3 wr w0.heap.size v (diffZ l m k) ∧ Below w0.heap.size w0 wr)) (fun _ vk _ => N - (RowKit.intOf vk).toNat)
  case atStart => exact ⟨0, by omega, rfl, Lib.hid ⟨OwnInts.nil_ _ _ _ _, HB2.out⟩⟩
  case round =>
    obtain ⟨k, hk, rfl, HO⟩ := hrel
    rename World => wr
    by_cases hlt : k < N
    · have c1 := (HO.out.2.cell (p := ⟨w.heap.size, 0, none⟩) (by show w.heap.size < _; omega)).trans HT.out.c1
      have c2 := (HO.out.2.cell (p := ⟨w.heap.size + 1, 0, none⟩) (by show w.heap.size + 1 < _; omega)).trans HT.out.c2
      have hb1 : Below wr.heap.size wr wr.drew := (Below.refl _ _).drew
      go_wp2
      by_cases hcmp : lineL l k = lineL m k
      · have hcmp2 : (lineL l k == lineL m k) = true := by simpa using hcmp
        have HS := Lib.hid (diffZ_same hcmp)
        clear hcmp
        go_region_held3 (fun w' => w'.cell? ⟨w.heap.size, 0, none⟩ = some (str l) ∧ w'.cell? ⟨w.heap.size + 1, 0, none⟩ = some (str m) ∧ Below wr.heap.size wr w') (first | assumption | (refine ⟨?_, ?_, ?_⟩ <;> assumption)) (first
          | (go_at_call 40; go_must (refine (line_any _ _ _ (by first | exact hl | exact hm) (by omega)).mono ?_); rintro e w2 ⟨rfl, hb2⟩; have q3 := ‹Below wr.heap.size wr _›.trans (hb2.mono ‹Below wr.heap.size wr _›.size); have q4 := HO.out.2.trans (q3.mono HO.out.2.size); have q1 := (q4.cell (p := ⟨w.heap.size, 0, none⟩) (by show w.heap.size < _; omega)).trans HT.out.c1; have q2 := (q4.cell (p := ⟨w.heap.size + 1, 0, none⟩) (by show w.heap.size + 1 < _; omega)).trans HT.out.c2; clear hb2))
        have HO2 := Lib.hid (And.intro (HO.out.1.below q3) q4)
        clear q1 q2 q3 q4 c1 c2 hb1
        go_wp2
        go_roundw
        case rel => exact ⟨k + 1, by omega, by go_num, by rw [HS.out]; exact HO2⟩
        case measure => simp [RowKit.intOf]; omega
      · have hcmp2 : (lineL l k == lineL m k) = false := by simpa using hcmp
        have HS := Lib.hid (diffZ_other hcmp)
        have hdl := diffZ_length l m k
        clear hcmp
        go_region_held3 (fun w' => w'.cell? ⟨w.heap.size, 0, none⟩ = some (str l) ∧ w'.cell? ⟨w.heap.size + 1, 0, none⟩ = some (str m) ∧ Below wr.heap.size wr w') (first | assumption | (refine ⟨?_, ?_, ?_⟩ <;> assumption)) (first
          | (go_at_call 40; go_must (refine (line_any _ _ _ (by first | exact hl | exact hm) (by omega)).mono ?_); rintro e w2 ⟨rfl, hb2⟩; have q3 := ‹Below wr.heap.size wr _›.trans (hb2.mono ‹Below wr.heap.size wr _›.size); have q4 := HO.out.2.trans (q3.mono HO.out.2.size); have q1 := (q4.cell (p := ⟨w.heap.size, 0, none⟩) (by show w.heap.size < _; omega)).trans HT.out.c1; have q2 := (q4.cell (p := ⟨w.heap.size + 1, 0, none⟩) (by show w.heap.size + 1 < _; omega)).trans HT.out.c2; clear hb2))
        have HO2 := Lib.hid (And.intro (HO.out.1.below q3) q4)
        clear q1 q2 q3 q4 c1 c2 hb1
        go_wp2_with (at_builtin; refine wpList_app (by simp [Region.wanted, yielded]) (.tmp 22) (.tmp 24) 46 rfl (v := u5) (B := w2.heap.size + 1) (c := 1) (A := some ⟨w2.heap.size, 0, none⟩) (zs := [(k : Int)]) Tryd.underlying46 HI.out HZ0.out HZ1.out HZ2.out rfl rfl (HO2.out.1.alloc _) rfl (IntsAt.new .i64 w2 3 (0, 0) [(k : Int)]) rfl (by simp [maxLen]; omega) (by omega) (Nat.le_trans HO2.out.2.size (by simp)) ?_; intro v2 w3 ho2 hg2 ha2; have hb2 := HO2.out.2.trans (((Below.refl w0.heap.size w2).alloc HO2.out.2.size _).trans ((HO2.out.1.alloc _).grownBelow hg2 (Nat.le_trans HO2.out.2.size (by simp)))); rw [← HS.out] at ho2; have HQ := Lib.hid (And.intro ho2 hb2); clear ho2 hg2 ha2 hb2 HO2)
        go_roundw
        case rel => exact ⟨k + 1, by omega, by go_num, HQ⟩
        case measure => simp [RowKit.intOf]; omega
    · have : k = N := by omega
      subst this
      go_wp2
      go_ret
      refine ⟨_, rfl, Lib.hid ⟨?_, hbb.trans (HO.out.2.mono (by omega))⟩⟩
      rw [HD.out]
      exact Go.World.ownsRow.mono HO.out.1 (by omega)
end Go.Proofs.YtnhddgmegnehaaaDoor.Base
