/-
  DEVICE: encode: the bytes of a line's words, appended to a row of the call's own.
-/
import Derived.Test.YtnhddgmegnehaaaDoorDFence
import Derived.Test.YtnhddgmegnehaaaDoorOwn
set_option linter.unusedVariables false
set_option linter.unusedSimpArgs false
namespace Go.Proofs.YtnhddgmegnehaaaDoor.Dev
open Go.ChangeShapes Go.WideShapes Go.ChangeAt Go.RowKit Go.Proofs.YtnhddgmegnehaaaDoor.Mem Go.Proofs.YtnhddgmegnehaaaDoor.Args Go.Proofs.YtnhddgmegnehaaaDoor.Own
theorem info8 : (Tryd.prog.info? 5).map (fun i => (i.zero, i.size, i.bytes)) = some (some (.int .u8 0), 1, 1) := by kernel_rfl
/-- The little-endian bytes of a word. -/
def wbytes (x : Nat) : List Int := [(x : Int) % 256, (x : Int) / 256 % 256, (x : Int) / 65536 % 256, (x : Int) / 16777216 % 256, (x : Int) / 4294967296 % 256, (x : Int) / 1099511627776 % 256, (x : Int) / 281474976710656 % 256, (x : Int) / 72057594037927936]
def lbytes (f : Nat → Nat) (n : Nat) : List Int := (List.range n).flatMap fun j => wbytes (f j)
theorem lbytes_succ (f : Nat → Nat) (n : Nat) : lbytes f (n + 1) = lbytes f n ++ wbytes (f n) := by
  simp [lbytes, List.range_succ, List.flatMap_append]
theorem lbytes_len (f : Nat → Nat) (n : Nat) : (lbytes f n).length = 8 * n := by
  induction n with
  | zero => rfl
  | succ n ih => rw [lbytes_succ, List.length_append, ih]; simp [wbytes]; omega
theorem ix0 (a b c d e f g h : Int) (w : World) : (Instr.index 78 (.agg #[.int .u64 a, .int .u64 b, .int .u64 c, .int .u64 d, .int .u64 e, .int .u64 f, .int .u64 g, .int .u64 h]) (.int .i64 0)).run Tryd.prog w = .ok (.int .u64 a) w := by kernel_rfl
theorem ix1 (a b c d e f g h : Int) (w : World) : (Instr.index 78 (.agg #[.int .u64 a, .int .u64 b, .int .u64 c, .int .u64 d, .int .u64 e, .int .u64 f, .int .u64 g, .int .u64 h]) (.int .i64 1)).run Tryd.prog w = .ok (.int .u64 b) w := by kernel_rfl
theorem ix2 (a b c d e f g h : Int) (w : World) : (Instr.index 78 (.agg #[.int .u64 a, .int .u64 b, .int .u64 c, .int .u64 d, .int .u64 e, .int .u64 f, .int .u64 g, .int .u64 h]) (.int .i64 2)).run Tryd.prog w = .ok (.int .u64 c) w := by kernel_rfl
theorem ix3 (a b c d e f g h : Int) (w : World) : (Instr.index 78 (.agg #[.int .u64 a, .int .u64 b, .int .u64 c, .int .u64 d, .int .u64 e, .int .u64 f, .int .u64 g, .int .u64 h]) (.int .i64 3)).run Tryd.prog w = .ok (.int .u64 d) w := by kernel_rfl
theorem ix4 (a b c d e f g h : Int) (w : World) : (Instr.index 78 (.agg #[.int .u64 a, .int .u64 b, .int .u64 c, .int .u64 d, .int .u64 e, .int .u64 f, .int .u64 g, .int .u64 h]) (.int .i64 4)).run Tryd.prog w = .ok (.int .u64 e) w := by kernel_rfl
theorem ix5 (a b c d e f g h : Int) (w : World) : (Instr.index 78 (.agg #[.int .u64 a, .int .u64 b, .int .u64 c, .int .u64 d, .int .u64 e, .int .u64 f, .int .u64 g, .int .u64 h]) (.int .i64 5)).run Tryd.prog w = .ok (.int .u64 f) w := by kernel_rfl
theorem ix6 (a b c d e f g h : Int) (w : World) : (Instr.index 78 (.agg #[.int .u64 a, .int .u64 b, .int .u64 c, .int .u64 d, .int .u64 e, .int .u64 f, .int .u64 g, .int .u64 h]) (.int .i64 6)).run Tryd.prog w = .ok (.int .u64 g) w := by kernel_rfl
theorem ix7 (a b c d e f g h : Int) (w : World) : (Instr.index 78 (.agg #[.int .u64 a, .int .u64 b, .int .u64 c, .int .u64 d, .int .u64 e, .int .u64 f, .int .u64 g, .int .u64 h]) (.int .i64 7)).run Tryd.prog w = .ok (.int .u64 h) w := by kernel_rfl
theorem index8 (f : Nat → Nat) (j : Nat) (hj : j < 8) (w : World) : (Instr.index 78 (.agg #[.int .u64 (f 0 : Int), .int .u64 (f 1 : Int), .int .u64 (f 2 : Int), .int .u64 (f 3 : Int), .int .u64 (f 4 : Int), .int .u64 (f 5 : Int), .int .u64 (f 6 : Int), .int .u64 (f 7 : Int)]) (.int .i64 (j : Int))).run Tryd.prog w = .ok (.int .u64 (f j : Int)) w := by
  have h : j = 0 ∨ j = 1 ∨ j = 2 ∨ j = 3 ∨ j = 4 ∨ j = 5 ∨ j = 6 ∨ j = 7 := by omega
  rcases h with rfl | rfl | rfl | rfl | rfl | rfl | rfl | rfl
  · exact ix0 (f 0) (f 1) (f 2) (f 3) (f 4) (f 5) (f 6) (f 7) w
  · exact ix1 (f 0) (f 1) (f 2) (f 3) (f 4) (f 5) (f 6) (f 7) w
  · exact ix2 (f 0) (f 1) (f 2) (f 3) (f 4) (f 5) (f 6) (f 7) w
  · exact ix3 (f 0) (f 1) (f 2) (f 3) (f 4) (f 5) (f 6) (f 7) w
  · exact ix4 (f 0) (f 1) (f 2) (f 3) (f 4) (f 5) (f 6) (f 7) w
  · exact ix5 (f 0) (f 1) (f 2) (f 3) (f 4) (f 5) (f 6) (f 7) w
  · exact ix6 (f 0) (f 1) (f 2) (f 3) (f 4) (f 5) (f 6) (f 7) w
  · exact ix7 (f 0) (f 1) (f 2) (f 3) (f 4) (f 5) (f 6) (f 7) w
set_option maxRecDepth 100000 in
theorem encode_any (w : World) (base : Nat) (v : Value) (zs : List Int) (f : Nat → Nat) (h : OwnInts .u8 5 w base v zs) (hl : zs.length ≤ 1000000) (hb : base ≤ w.heap.size) (hf : ∀ j, f j < 18446744073709551616) :
    Calls Tryd.prog 45 #[v, words8 f] w fun e w' => ∃ v', e = .returned v' ∧ Hid (OwnInts .u8 5 w' base v' (zs ++ lbytes f 8) ∧ Below base w w') := by
  obtain ⟨i0, hi, hz0, hz1, hz2⟩ := info_parts info8
  have HI := Lib.hid hi
  have HZ0 := Lib.hid hz0
  have HZ1 := Lib.hid hz1
  have HZ2 := Lib.hid hz2
  have HO := Lib.hid h
  have HIX := Lib.hid (index8 f)
  have HF := Lib.hid hf
  clear hi hz0 hz1 hz2 h hf
  unfold words8 wordG
  go_enter Tryd.func45, Tryd.ntmps45
  go_wp2
  go_loopw [0, 8] (fun p i wr => ∃ j : Nat, j ≤ 8 ∧ i = .int .i64 j ∧ Hid (OwnInts .u8 5 wr base p (zs ++ lbytes f j) ∧ Below base w wr)) (fun _ i _ => 8 - (intOf i).toNat)
  case atStart => exact ⟨0, by omega, rfl, Lib.hid ⟨by simpa [lbytes] using HO.out.alloc _, (Below.refl _ _).alloc hb _⟩⟩
  case round =>
    obtain ⟨j, hj, rfl, HR⟩ := hrel
    by_cases hlt : j < 8
    · have hx := HIX.out j hlt
      have hfj := HF.out j
      generalize hxx : f j = x at *
      have HX := Lib.hid hxx
      clear hxx
      have hj88 : (j : Int) < 8 := by omega
      have hll := lbytes_len f j
      have HLL := Lib.hid hll
      clear hll
      go_wp2_with (at_builtin; refine wpList_app (by simp [Region.wanted, yielded]) (.tmp 11) (.tmp 35) 22 rfl (v := u0) (B := wr.heap.size + 1) (c := 8) (A := some ⟨wr.heap.size, 0, none⟩) (zs := [(x : Int) % 256, (x : Int) / 256 % 256, (x : Int) / 65536 % 256, (x : Int) / 16777216 % 256, (x : Int) / 4294967296 % 256, (x : Int) / 1099511627776 % 256, (x : Int) / 281474976710656 % 256, (x : Int) / 72057594037927936]) Tryd.underlying22 HI.out HZ0.out HZ1.out HZ2.out rfl rfl (HR.out.1.alloc _) rfl (IntsAt.new .u8 wr 5 (0, 0) _) rfl (by rw [List.length_append, HLL.out]; simp [maxLen]; omega) (by rw [List.length_append, HLL.out]; omega) (Nat.le_trans (Nat.le_trans hb HR.out.2.size) (by simp)) ?_; intro v2 w2 ho2 hg2 ha2; have hb2 := HR.out.2.trans (((Below.refl base wr).alloc (Nat.le_trans hb HR.out.2.size) _).trans ((HR.out.1.alloc _).grownBelow hg2 (Nat.le_trans (Nat.le_trans hb HR.out.2.size) (by simp)))); have HQ := Lib.hid (And.intro ho2 hb2); clear ho2 hg2 ha2 hb2 HR)
      go_roundw
      case rel =>
        refine ⟨j + 1, by omega, by go_num, Lib.hid ⟨?_, HQ.out.2⟩⟩
        rw [lbytes_succ, HX.out, ← List.append_assoc]
        exact HQ.out.1
      case measure => simp [intOf]; omega
    · have hj8 : j = 8 := by omega
      subst hj8
      go_wp2
      go_ret
      exact ⟨_, rfl, HR⟩
end Go.Proofs.YtnhddgmegnehaaaDoor.Dev
