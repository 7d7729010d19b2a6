/-
  CONTRACTS OF PACKAGE image: With at other offsets, line, Resize.
-/
import Derived.Test.YtnhddgmegnehaaaDoorIImg2
set_option linter.unusedVariables false
set_option linter.unusedSimpArgs false
namespace Go.Proofs.YtnhddgmegnehaaaDoor.Base
open Go.ChangeShapes Go.WideShapes Go.ChangeAt Go.RowKit Go.Sort Go.Lib
theorem with_bad (l : List UInt8) (off : Int) (v : Nat) (w : World) (hl : l.length ≤ 4294967295) (h0 : 0 ≤ off) (h1 : off ≤ 18446744073709551615) (hv : v < 18446744073709551616) (hz : ¬ cErr l off = 0) :
    Calls Tryd.prog 17 #[img l, .int .u64 off, .int .u64 (v : Int)] w fun e w' => e = .returned (.tuple #[img [], .int .i64 (cErr l off)]) ∧ Below w.heap.size w w' := by
  have HC := Lib.hid (fun w => check_any l off w hl h0 h1)
  have hz2 : (cErr l off == 0) = false := by rw [beq_eq_false_iff_ne]; exact hz
  generalize cErr l off = x at *
  go_enter Tryd.func17, Tryd.ntmps17
  go_wp2_with (go_at_call 36; refine (HC.out _).mono ?_; rintro e w1 ⟨rfl, hb⟩; have hK : Kept w l [] w1 := (Kept.start w l).on hb; obtain ⟨k1, k2, k3, k4, k5⟩ := hK)
  have hfin := World.cell?_setCell_same w1 ⟨w.heap.size + 1, 0, none⟩ (.string ⟨#[]⟩) k2
  have hbf : Below w.heap.size w (w1.setCell ⟨w.heap.size + 1, 0, none⟩ (.string ⟨#[]⟩)) := k5.setCell (Nat.le_succ _) _
  refine bodyPost_ret (v := .tuple #[img [], .int .i64 x]) (by simp [results, Tryd.results17, go_sem, hfin]) rfl ⟨rfl, hbf⟩
/-- line n, or nothing. -/
def lineL (l : List UInt8) (n : Nat) : List UInt8 := if l.length / 64 ≤ n then [] else (l.drop (64 * n)).take 64
theorem lineL_out {l : List UInt8} {n : Nat} (h : l.length / 64 ≤ n) : lineL l n = [] := if_pos h
theorem lineL_in {l : List UInt8} {n : Nat} (h : ¬ l.length / 64 ≤ n) : lineL l n = (l.drop (64 * n)).take 64 := if_neg h
theorem lineL_length (l : List UInt8) (n : Nat) : (lineL l n).length ≤ 64 := by
  unfold lineL
  split
  · simp
  · rw [List.length_take]; omega
set_option maxRecDepth 100000 in
theorem line_any (l : List UInt8) (n : Nat) (w : World) (hl : l.length ≤ 4294967295) (hn : n ≤ 4294967295) :
    Calls Tryd.prog 40 #[img l, .int .i64 (n : Int)] w fun e w' => e = .returned (str (lineL l n)) ∧ Below w.heap.size w w' := by
  have HLn := Lib.hid (fun w => lines_any l w hl)
  have hb0 : Below w.heap.size w (w.alloc (.cells #[str l] 25)) := (Below.refl _ _).alloc (Nat.le_refl _) _
  have hcell : (w.alloc (.cells #[str l] 25)).cell? ⟨w.heap.size, 0, none⟩ = some (str l) := by rw [World.cell?_alloc_new]; rfl
  by_cases h : l.length / 64 ≤ n
  · rw [lineL_out h]
    have hi : ((l.length / 64 : Nat) : Int) ≤ (n : Int) := by omega
    generalize l.length / 64 = m at *
    go_enter Tryd.func40, Tryd.ntmps40
    go_wp2_with (go_at_call 12; refine (HLn.out _).mono ?_; rintro e w1 ⟨rfl, hb⟩; have hcell1 := (hb.cell (p := ⟨w.heap.size, 0, none⟩) (by simp)).trans hcell; have hb1 := hb0.trans (hb.mono hb0.size))
    go_ret
    exact ⟨rfl, hb1⟩
  · rw [lineL_in h]
    have hlen : 64 * n + 64 ≤ l.length := by omega
    have hi : ¬ ((l.length / 64 : Nat) : Int) ≤ (n : Int) := by omega
    have hsl : ∀ W, (Instr.slice 9 (.string ⟨l.toArray⟩) (some (.int .i64 ((n : Int) * 64))) (some (.int .i64 (((n : Int) + 1) * 64))) none).run Tryd.prog W = .ok (.string ⟨((l.drop (64 * n)).take 64).toArray⟩) W := fun W => by
      have := slice_two l (64 * n) (64 * n + 64) (by omega) hlen W
      rw [show ((64 * n : Nat) : Int) = (n : Int) * 64 by omega, show ((64 * n + 64 : Nat) : Int) = ((n : Int) + 1) * 64 by omega, show 64 * n + 64 - 64 * n = 64 by omega] at this
      exact this
    generalize l.length / 64 = m at *
    generalize (l.drop (64 * n)).take 64 = r at *
    go_enter Tryd.func40, Tryd.ntmps40
    go_wp2_with (go_at_call 12; refine (HLn.out _).mono ?_; rintro e w1 ⟨rfl, hb⟩; have hcell1 := (hb.cell (p := ⟨w.heap.size, 0, none⟩) (by simp)).trans hcell; have hb1 := hb0.trans (hb.mono hb0.size))
    go_ret
    exact ⟨rfl, hb1⟩
def resizeL (l : List UInt8) (n : Nat) : List UInt8 := l.take (64 * min n (l.length / 64)) ++ List.replicate ((n - min n (l.length / 64)) * 64) 0
set_option maxRecDepth 100000 in
theorem resize_ok (l : List UInt8) (n : Nat) (w : World) (hl : l.length ≤ 4294967295) (hn : n ≤ 4096) :
    Calls Tryd.prog 21 #[img l, .int .i64 (n : Int)] w fun e w' => e = .returned (.tuple #[img (resizeL l n), .int .i64 0]) ∧ Below w.heap.size w w' := by
  have HLn := Lib.hid (fun w => lines_any l w hl)
  obtain ⟨k, hk⟩ : ∃ k, min n (l.length / 64) = k := ⟨_, rfl⟩
  have hmin : min (n : Int) ((l.length / 64 : Nat) : Int) = (k : Int) := by omega
  have hkn : k ≤ n := by omega
  have hkl : 64 * k ≤ l.length := by omega
  have HE : Hid (resizeL l n = l.take (64 * k) ++ List.replicate ((n - k) * 64) 0) := Lib.hid (by unfold resizeL; rw [hk])
  have HR := Lib.hid (fun w => repeat_any 0 ((n - k) * 64) w (by omega))
  have hmul : ((n : Int) - (k : Int)) * 64 = (((n - k) * 64 : Nat) : Int) := by omega
  have hsl : ∀ W, (Instr.slice 9 (.string ⟨l.toArray⟩) none (some (.int .i64 ((k : Int) * 64))) none).run Tryd.prog W = .ok (.string ⟨(l.take (64 * k)).toArray⟩) W := fun W => by
    have := slice_hi .i64 l (64 * k) hkl W
    rw [show ((64 * k : Nat) : Int) = (k : Int) * 64 by omega] at this
    exact this
  have hl1 : (l.take (64 * k)).length ≤ 4294967295 := by rw [List.length_take]; omega
  have hl2 : (List.replicate ((n - k) * 64) (0 : UInt8)).length ≤ 4294967295 := by simp; omega
  generalize l.length / 64 = m at *
  generalize l.take (64 * k) = l1 at *
  generalize List.replicate ((n - k) * 64) (0 : UInt8) = l2 at *
  generalize (n - k) * 64 = c at *
  clear hk
  go_enter Tryd.func21, Tryd.ntmps21
  go_wp2_with (first
    | (go_at_call 12; refine (HLn.out _).mono ?_; rintro e w1 ⟨rfl, hb⟩; have hK : Kept w l [] w1 := (Kept.start w l).on hb; obtain ⟨k1, k2, k3, k4, k5⟩ := hK)
    | (go_at_call 39; go_must (refine (HR.out _).mono ?_); rintro e w2 ⟨rfl, hb2⟩; have hK2 : Kept w l [] w2 := Kept.on ⟨k1, k2, k3, k4, k5⟩ hb2; obtain ⟨q1, q2, q3, q4, q5⟩ := hK2))
  have hfin := World.cell?_setCell_same w2 ⟨w.heap.size + 1, 0, none⟩ (.string (⟨l1.toArray⟩ ++ ⟨l2.toArray⟩)) q2
  have hbf : Below w.heap.size w (w2.setCell ⟨w.heap.size + 1, 0, none⟩ (.string (⟨l1.toArray⟩ ++ ⟨l2.toArray⟩))) := q5.setCell (Nat.le_succ _) _
  have e : (⟨l1.toArray⟩ ++ ⟨l2.toArray⟩ : ByteArray) = ⟨(resizeL l n).toArray⟩ := by rw [HE.out, ba_app]
  rw [e] at hfin
  refine bodyPost_ret (v := .tuple #[img (resizeL l n), .int .i64 0]) (by simp [results, Tryd.results21, go_sem, hfin, e]) rfl ⟨rfl, hbf⟩
theorem resize_bad (l : List UInt8) (n : Int) (w : World) (hn : n < 0 ∨ 4096 < n) :
    Calls Tryd.prog 21 #[img l, .int .i64 n] w fun e w' => e = .returned (.tuple #[img [], .int .i64 1]) ∧ Below w.heap.size w w' := by
  obtain ⟨k1, k2, k3, k4, k5⟩ := Kept.start w l
  go_enter Tryd.func21, Tryd.ntmps21
  go_wp2
  all_goals first
    | (exfalso; omega)
    | (refine bodyPost_ret (v := .tuple #[img [], .int .i64 1]) (by simp [results, Tryd.results21, go_sem, k2]) rfl ⟨rfl, k5⟩)
end Go.Proofs.YtnhddgmegnehaaaDoor.Base
