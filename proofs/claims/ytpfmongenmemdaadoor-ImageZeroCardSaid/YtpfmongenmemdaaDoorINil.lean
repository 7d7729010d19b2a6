/-
  CONTRACT: image.Of at nil.
-/
import Derived.Test.YtpfmongenmemdaaDoorILawBase
import Derived.Test.YtpfmongenmemdaaDoorIRres
set_option linter.unusedVariables false
set_option linter.unusedSimpArgs false
namespace Go.Proofs.YtpfmongenmemdaaDoor.Base
open Go.ChangeShapes Go.WideShapes Go.ChangeAt Go.RowKit Go.Sort Go.Lib Go.Proofs.YtpfmongenmemdaaDoor.Args Go.Proofs.YtpfmongenmemdaaDoor.Own
theorem dlines_nil (w : World) : Calls Tryd.prog 30 #[.pointer none] w fun e w' => e = .returned (.int .i64 0) ∧ w' = w := by
  go_enter Tryd.func30, Tryd.ntmps30
  go_wp2
  go_ret
  exact ⟨rfl, rfl⟩
theorem dsize_nil (w : World) : Calls Tryd.prog 44 #[.pointer none] w fun e w' => e = .returned (.int .u64 0) ∧ w' = w := by
  go_enter Tryd.func44, Tryd.ntmps44
  go_wp2_with (go_at_call 30; refine (dlines_nil _).mono ?_; rintro e w' ⟨rfl, hw⟩; have hw2 := hw.symm; clear hw; subst hw2)
  go_ret
  exact ⟨rfl, rfl⟩
set_option maxRecDepth 100000 in
theorem dimage_nil (w : World) : Calls Tryd.prog 43 #[.pointer none, .slice none 0 0] w fun e w' => ∃ A, e = .returned (.slice A 0 0) ∧ Below w.heap.size w w' := by
  obtain ⟨i0, hi, hz0, hz1, hz2⟩ := info_parts infoB
  have HI := Lib.hid hi
  have HZ0 := Lib.hid hz0
  have HZ1 := Lib.hid hz1
  have HZ2 := Lib.hid hz2
  clear hi hz0 hz1 hz2
  go_enter Tryd.func43, Tryd.ntmps43
  go_wp2_with (first
    | (go_at_call 44; refine (dsize_nil _).mono ?_; rintro e w' ⟨rfl, hw⟩; have hw2 := hw.symm; clear hw; subst hw2)
    | (go_at_call 30; refine (dlines_nil _).mono ?_; rintro e w' ⟨rfl, hw⟩; have hw2 := hw.symm; clear hw; subst hw2)
    | (at_make; refine wpList_make_full _ rfl _ _ 22 rfl w.heap.size 5 i0 (.int .u8 0) 1 Tryd.underlying22 HI.out HZ0.out HZ1.out .i64 .u64 (0 : Int) (0 : Int) 0 rfl rfl rfl rfl (by omega) (by simp [maxLen]) (Nat.le_refl _) ?_; intro w1 ho1 hg1; have hb1 : Below w.heap.size w w1 := (Below.refl _ _).grown hg1 (Nat.le_refl _) (fun k hk => by cases hk)))
  go_loopw [5, 15] (fun v vk wr => v = .slice (some ⟨w.heap.size, 0, none⟩) 0 0 ∧ vk = .int .i64 0 ∧ wr = w1) (fun _ _ _ => 0)
  case atStart => exact ⟨rfl, rfl, rfl⟩
  case round =>
    obtain ⟨rfl, rfl, hw⟩ := hrel
    subst hw
    go_wp2
    go_ret
    exact ⟨_, rfl, hb1⟩
theorem persisted_nil (w : World) : Calls Tryd.prog 32 #[.pointer none] w fun e w' => ∃ A, e = .returned (.slice A 0 0) ∧ Below w.heap.size w w' := by
  go_enter Tryd.func32, Tryd.ntmps32
  go_wp2_with (go_at_call 43; go_must (refine (dimage_nil _).mono ?_); rintro e w' ⟨A, rfl, hb⟩)
  go_ret
  exact ⟨A, rfl, hb⟩
theorem of_nil (w : World) : Calls Tryd.prog 34 #[.pointer none] w fun e w' => e = .returned (img []) ∧ Below w.heap.size w w' := by
  have k1 : (w.alloc (.cells #[.string ⟨#[]⟩] 25)).cell? ⟨w.heap.size, 0, none⟩ = some (.string ⟨#[]⟩) := (one_kept w).1
  have k2 := (one_kept w).2.1
  have k3 := (one_kept w).2.2
  have HC := Lib.hid (fun (w : World) (A : Option Addr) => conv_u8s (w := w) (A := A) (n := 0) (c := 0) (B := 0) (zs := []) IntsAt.nil_ rfl)
  obtain ⟨w0, hw0⟩ : ∃ w0, w.alloc (.cells #[.string ⟨#[]⟩] 25) = w0 := ⟨_, rfl⟩
  rw [hw0] at k1 k2 k3
  have HW0 := Lib.hid hw0
  have hz0 : w.heap.size < w0.heap.size := by rw [← hw0]; simp
  clear hw0
  go_enter Tryd.func34, Tryd.ntmps34
  go_wp2_with (go_at_call 32; refine Hid.out ?_)
  rw [HW0.out]
  refine Lib.hid ?_
  go_wp2_with (go_at_call 32; go_must (refine (persisted_nil _).mono ?_); rintro e w2 ⟨A, rfl, hb⟩; have q1 := (hb.cell (p := ⟨w.heap.size, 0, none⟩) hz0).trans k1; have q2 := (hb.frozen (p := ⟨w.heap.size, 0, none⟩) hz0).trans k2; have hcv := HC.out w2 A; have hb2 := k3.trans (hb.mono k3.size); rw [show u8s [] = [] from rfl] at hcv)
  have hfin := World.cell?_setCell_same w2 ⟨w.heap.size, 0, none⟩ (.string ⟨#[]⟩) q1
  have hbf : Below w.heap.size w (w2.setCell ⟨w.heap.size, 0, none⟩ (.string ⟨#[]⟩)) := hb2.setCell (Nat.le_refl _) _
  refine bodyPost_ret (v := img []) (by simp [results, Tryd.results34, go_sem, hfin]) rfl ⟨rfl, hbf⟩
end Go.Proofs.YtpfmongenmemdaaDoor.Base
