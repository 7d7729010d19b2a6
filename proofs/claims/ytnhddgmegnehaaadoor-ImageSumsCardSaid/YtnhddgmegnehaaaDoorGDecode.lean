/-
  DEVICE: decode: the words of a line's bytes.
-/
import Derived.Test.YtnhddgmegnehaaaDoorGWord
import Derived.Test.YtnhddgmegnehaaaDoorGFromMath
set_option linter.unusedVariables false
set_option linter.unusedSimpArgs false
namespace Go.Proofs.YtnhddgmegnehaaaDoor.Dev
open Go.ChangeShapes Go.WideShapes Go.ChangeAt Go.RowKit Go.Proofs.YtnhddgmegnehaaaDoor.Mem Go.Proofs.YtnhddgmegnehaaaDoor.Args Go.Proofs.YtnhddgmegnehaaaDoor.PackMath
theorem add_add (a : Addr) (i j : Nat) : (a.add i).add j = a.add (i + j) := by
  by_cases hj : j = 0
  · subst hj; simp [Addr.add]
  · by_cases hi : i = 0
    · subst hi; simp [Addr.add]
    · simp [Addr.add, hi, hj, Nat.add_assoc]
theorem add_form (a : Addr) (i : Nat) (hi : i ≠ 0) : a.add i = ⟨a.block, a.off + i, none⟩ := by unfold Addr.add; rw [if_neg hi]
theorem add_zero (a : Addr) : a.add 0 = a := rfl
theorem or_step (W b r : Nat) (hW : W < 256 ^ r) (hb : b < 256) (hr : r < 8) : bits .or .u64 (W : Int) ((b * 256 ^ r : Nat) : Int) = ((W + b * 256 ^ r : Nat) : Int) ∧ W + b * 256 ^ r < 256 ^ (r + 1) := by
  refine ⟨or_byte W b r hW hb hr, ?_⟩
  have h1 : 256 ^ (r + 1) = 256 ^ r * 256 := Nat.pow_succ ..
  have h2 : b * 256 ^ r ≤ 255 * 256 ^ r := Nat.mul_le_mul_right _ (by omega)
  omega
/-- The eight bytes from 8 j on, and their word as the code makes it. -/
theorem word_chain (zs : List Int) (j : Nat) (h : 8 * j + 8 ≤ zs.length) (hz : ∀ z ∈ zs, 0 ≤ z ∧ z ≤ 255) :
    ∃ b0 b1 b2 b3 b4 b5 b6 b7 : Nat, b0 < 256 ∧ b1 < 256 ∧ b2 < 256 ∧ b3 < 256 ∧ b4 < 256 ∧ b5 < 256 ∧ b6 < 256 ∧ b7 < 256 ∧
      zs.getD (8 * j + 0) 0 = (b0 : Int) ∧ zs.getD (8 * j + 1) 0 = (b1 : Int) ∧ zs.getD (8 * j + 2) 0 = (b2 : Int) ∧ zs.getD (8 * j + 3) 0 = (b3 : Int) ∧ zs.getD (8 * j + 4) 0 = (b4 : Int) ∧ zs.getD (8 * j + 5) 0 = (b5 : Int) ∧ zs.getD (8 * j + 6) 0 = (b6 : Int) ∧ zs.getD (8 * j + 7) 0 = (b7 : Int) ∧
      bits .or .u64 (bits .or .u64 (bits .or .u64 (bits .or .u64 (bits .or .u64 (bits .or .u64 (bits .or .u64 (b0 : Int) ((b1 : Int) * 256)) ((b2 : Int) * 65536)) ((b3 : Int) * 16777216)) ((b4 : Int) * 4294967296)) ((b5 : Int) * 1099511627776)) ((b6 : Int) * 281474976710656)) ((b7 : Int) * 72057594037927936) = (wordOf zs j : Int) := by
  obtain ⟨b0, h0, g0, e0, m0⟩ := leTo_succ zs (8 * j) 0 (by omega) hz
  obtain ⟨b1, h1, g1, e1, m1⟩ := leTo_succ zs (8 * j) 1 (by omega) hz
  obtain ⟨b2, h2, g2, e2, m2⟩ := leTo_succ zs (8 * j) 2 (by omega) hz
  obtain ⟨b3, h3, g3, e3, m3⟩ := leTo_succ zs (8 * j) 3 (by omega) hz
  obtain ⟨b4, h4, g4, e4, m4⟩ := leTo_succ zs (8 * j) 4 (by omega) hz
  obtain ⟨b5, h5, g5, e5, m5⟩ := leTo_succ zs (8 * j) 5 (by omega) hz
  obtain ⟨b6, h6, g6, e6, m6⟩ := leTo_succ zs (8 * j) 6 (by omega) hz
  obtain ⟨b7, h7, g7, e7, m7⟩ := leTo_succ zs (8 * j) 7 (by omega) hz
  have z0 : leTo zs (8 * j) 0 = 0 := by simp [leTo, le]
  have w8 : leTo zs (8 * j) 8 = wordOf zs j := rfl
  have k1 : (b1 : Int) * 256 = ((b1 * 256 ^ 1 : Nat) : Int) := by rw [Int.natCast_mul]; rfl
  have k2 : (b2 : Int) * 65536 = ((b2 * 256 ^ 2 : Nat) : Int) := by rw [Int.natCast_mul]; rfl
  have k3 : (b3 : Int) * 16777216 = ((b3 * 256 ^ 3 : Nat) : Int) := by rw [Int.natCast_mul]; rfl
  have k4 : (b4 : Int) * 4294967296 = ((b4 * 256 ^ 4 : Nat) : Int) := by rw [Int.natCast_mul]; rfl
  have k5 : (b5 : Int) * 1099511627776 = ((b5 * 256 ^ 5 : Nat) : Int) := by rw [Int.natCast_mul]; rfl
  have k6 : (b6 : Int) * 281474976710656 = ((b6 * 256 ^ 6 : Nat) : Int) := by rw [Int.natCast_mul]; rfl
  have k7 : (b7 : Int) * 72057594037927936 = ((b7 * 256 ^ 7 : Nat) : Int) := by rw [Int.natCast_mul]; rfl
  have e1' : b0 = leTo zs (8 * j) 1 := by rw [e0, z0]; simp
  refine ⟨b0, b1, b2, b3, b4, b5, b6, b7, h0, h1, h2, h3, h4, h5, h6, h7, g0, g1, g2, g3, g4, g5, g6, g7, ?_⟩
  rw [k1, k2, k3, k4, k5, k6, k7, e1']
  rw [or_byte _ b1 1 m1 h1 (by omega), ← e1]
  rw [or_byte _ b2 2 m2 h2 (by omega), ← e2]
  rw [or_byte _ b3 3 m3 h3 (by omega), ← e3]
  rw [or_byte _ b4 4 m4 h4 (by omega), ← e4]
  rw [or_byte _ b5 5 m5 h5 (by omega), ← e5]
  rw [or_byte _ b6 6 m6 h6 (by omega), ← e6]
  rw [or_byte _ b7 7 m7 h7 (by omega), ← e7]
  rw [w8]
def decG (zs : List Int) (k j : Nat) : Nat := if j < k then wordOf zs j else 0
theorem decG_succ (zs : List Int) (k : Nat) : (fun j => if j = k then wordOf zs k else decG zs k j) = decG zs (k + 1) := by
  funext j
  unfold decG
  by_cases h : j = k
  · subst h; simp
  · by_cases h2 : j < k
    · rw [if_neg h, if_pos h2, if_pos (by omega)]
    · rw [if_neg h, if_neg h2, if_neg (by omega)]
theorem decG_full (zs : List Int) : words8 (decG zs 8) = words8 (wordOf zs) := by
  unfold words8 wordG decG
  simp
set_option maxRecDepth 100000 in
set_option maxHeartbeats 1000000 in
theorem decode_any (w : World) (A : Option Addr) (n c B : Nat) (zs : List Int) (hl : zs.length = n) (h64 : 64 ≤ n) (hnc : n ≤ c) (hn : c ≤ maxLen) (hr : Hid (IntsAt .u8 w B A zs)) (hB : B ≤ w.heap.size) (hw : Hid (∀ z ∈ zs, 0 ≤ z ∧ z ≤ 255)) :
    Calls Tryd.prog 57 #[.slice A n c] w fun q w' => q = .returned (words8 (wordOf zs)) ∧ Hid (Below w.heap.size w w') := by
  have HL := Lib.hid hl
  have hcl : c ≤ 9223372036854775807 := by unfold maxLen at hn; omega
  clear hl
  go_enter Tryd.func57, Tryd.ntmps57
  go_wp2
  go_loopw [6] (fun i wr => ∃ j : Nat, j ≤ 8 ∧ i = .int .i64 j ∧ Hid (Blk wr (w.heap.size + 1) 78 8 (wordG (decG zs j)) ∧ Blk wr w.heap.size 78 8 (wordG fun _ => 0) ∧ Below w.heap.size w wr)) (fun i _ => 8 - (intOf i).toNat)
  case atStart => exact ⟨0, by omega, rfl, Lib.hid ⟨words_blk _ _ (decG zs 0) _ (by simp), (words_blk w _ (fun _ => 0) _ rfl).alloc _, ((Below.refl _ _).alloc (Nat.le_refl _) _).alloc (by simp) _⟩⟩
  case round =>
    obtain ⟨j, hj, rfl, HO⟩ := hrel
    by_cases hjk : j < 8
    · have hj8 : (j : Int) < 8 := by omega
      obtain ⟨ad, rfl, hadb, _⟩ := hr.out (8 * j) (by rw [HL.out]; omega)
      have hcell : ∀ i, i < 8 → ∀ b : Nat, zs.getD (8 * j + i) 0 = (b : Int) → wr.cell? ((ad.add (8 * j)).add i) = some (.int .u8 (b : Int)) := fun i hi b hb => by
        obtain ⟨ad', e, _, h⟩ := hr.out (8 * j + i) (by rw [HL.out]; omega)
        cases e
        rw [add_add, ← hb]
        exact (HO.out.2.2.cell (p := ad.add (8 * j + i)) (by rw [add_block]; omega)).trans h
      obtain ⟨b0, b1, b2, b3, b4, b5, b6, b7, h0, h1, h2, h3, h4, h5, h6, h7, g0, g1, g2, g3, g4, g5, g6, g7, hv⟩ := word_chain zs j (by rw [HL.out]; omega) hw.out
      have c0 := hcell 0 (by omega) b0 g0
      rw [add_zero] at c0
      have c1 := hcell 1 (by omega) b1 g1
      rw [add_form _ _ (by omega)] at c1
      have c2 := hcell 2 (by omega) b2 g2
      rw [add_form _ _ (by omega)] at c2
      have c3 := hcell 3 (by omega) b3 g3
      rw [add_form _ _ (by omega)] at c3
      have c4 := hcell 4 (by omega) b4 g4
      rw [add_form _ _ (by omega)] at c4
      have c5 := hcell 5 (by omega) b5 g5
      rw [add_form _ _ (by omega)] at c5
      have c6 := hcell 6 (by omega) b6 g6
      rw [add_form _ _ (by omega)] at c6
      have c7 := hcell 7 (by omega) b7 g7
      rw [add_form _ _ (by omega)] at c7
      obtain ⟨x, hx⟩ : ∃ x, 8 * j = x := ⟨_, rfl⟩
      rw [hx] at c0 c1 c2 c3 c4 c5 c6 c7
      have hx1 : IntKind.i64.wrap ((j : Int) * 8) = (x : Int) := by rw [IntWalk.i64_in _ (by omega)]; omega
      have hx2 : IntKind.i64.wrap (((j : Int) + 1) * 8) = ((x + 8 : Nat) : Int) := by rw [IntWalk.i64_in _ (by omega)]; omega
      have hxn : x + 8 ≤ n := by omega
      have HS := Lib.hid (show Blk ((wr.setCell ⟨w.heap.size + 1, j, none⟩ (.int .u64 (bits .or .u64 (bits .or .u64 (bits .or .u64 (bits .or .u64 (bits .or .u64 (bits .or .u64 (bits .or .u64 (b0 : Int) ((b1 : Int) * 256)) ((b2 : Int) * 65536)) ((b3 : Int) * 16777216)) ((b4 : Int) * 4294967296)) ((b5 : Int) * 1099511627776)) ((b6 : Int) * 281474976710656)) ((b7 : Int) * 72057594037927936)))).drew) (w.heap.size + 1) 78 8 (wordG (decG zs (j + 1))) ∧ Blk ((wr.setCell ⟨w.heap.size + 1, j, none⟩ (.int .u64 (bits .or .u64 (bits .or .u64 (bits .or .u64 (bits .or .u64 (bits .or .u64 (bits .or .u64 (bits .or .u64 (b0 : Int) ((b1 : Int) * 256)) ((b2 : Int) * 65536)) ((b3 : Int) * 16777216)) ((b4 : Int) * 4294967296)) ((b5 : Int) * 1099511627776)) ((b6 : Int) * 281474976710656)) ((b7 : Int) * 72057594037927936)))).drew) w.heap.size 78 8 (wordG fun _ => 0) ∧ Below w.heap.size w ((wr.setCell ⟨w.heap.size + 1, j, none⟩ (.int .u64 (bits .or .u64 (bits .or .u64 (bits .or .u64 (bits .or .u64 (bits .or .u64 (bits .or .u64 (bits .or .u64 (b0 : Int) ((b1 : Int) * 256)) ((b2 : Int) * 65536)) ((b3 : Int) * 16777216)) ((b4 : Int) * 4294967296)) ((b5 : Int) * 1099511627776)) ((b6 : Int) * 281474976710656)) ((b7 : Int) * 72057594037927936)))).drew) from by
        refine ⟨?_, (HO.out.2.1.setOther (by simp) _).drew, (HO.out.2.2.setCell (by simp) _).drew⟩
        rw [hv]
        have := (HO.out.1.set j (.int .u64 (wordOf zs j : Int))).drew
        rw [wordG_upd, decG_succ] at this
        exact this)
      have hc1 : wr.drew.cell? ⟨w.heap.size + 1, j, none⟩ = some (wordG (decG zs j) j) := HO.out.1.cell hjk
      have hf1 : wr.drew.frozen? ⟨w.heap.size + 1, j, none⟩ = false := HO.out.1.frozen _
      have hwj : IntKind.i64.wrap (j : Int) = (j : Int) := IntWalk.i64_in _ ⟨by omega, by omega⟩
      have hj0 : (0 : Int) ≤ (j : Int) := by omega
      clear hcell g0 g1 g2 g3 g4 g5 g6 g7 hv hx
      go_wp2_with fail
      go_still_tail 48, (by kernel_rfl)
      repeat still_step
      try refine wpStill_nil ?_
      change wpList _ _ _ _ _ wr.drew
      clear c0 c1 c2 c3 c4 c5 c6 c7
      go_wp2
      go_roundw
      case rel => exact ⟨j + 1, by omega, by go_num, HS⟩
      case measure => simp [intOf]; omega
    · have hkj : j = 8 := by omega
      subst hkj
      obtain ⟨F, hF⟩ : ∃ F, decG zs 8 = F := ⟨_, rfl⟩
      rw [hF] at HO
      have HF := Lib.hid hF
      clear hF
      have h0 := HO.out.1.cell (o := 0) (by decide)
      have r0 := HO.out.2.1.cell (o := 0) (by decide)
      have z0 := HO.out.2.1.frozen 0
      have h1 := HO.out.1.cell (o := 1) (by decide)
      have r1 := HO.out.2.1.cell (o := 1) (by decide)
      have z1 := HO.out.2.1.frozen 1
      have h2 := HO.out.1.cell (o := 2) (by decide)
      have r2 := HO.out.2.1.cell (o := 2) (by decide)
      have z2 := HO.out.2.1.frozen 2
      have h3 := HO.out.1.cell (o := 3) (by decide)
      have r3 := HO.out.2.1.cell (o := 3) (by decide)
      have z3 := HO.out.2.1.frozen 3
      have h4 := HO.out.1.cell (o := 4) (by decide)
      have r4 := HO.out.2.1.cell (o := 4) (by decide)
      have z4 := HO.out.2.1.frozen 4
      have h5 := HO.out.1.cell (o := 5) (by decide)
      have r5 := HO.out.2.1.cell (o := 5) (by decide)
      have z5 := HO.out.2.1.frozen 5
      have h6 := HO.out.1.cell (o := 6) (by decide)
      have r6 := HO.out.2.1.cell (o := 6) (by decide)
      have z6 := HO.out.2.1.frozen 6
      have h7 := HO.out.1.cell (o := 7) (by decide)
      have r7 := HO.out.2.1.cell (o := 7) (by decide)
      have z7 := HO.out.2.1.frozen 7
      unfold wordG at h0 h1 h2 h3 h4 h5 h6 h7 r0 r1 r2 r3 r4 r5 r6 r7
      go_wp2
      refine bodyPost_ret (v := words8 F) (by simp [results, Tryd.results57, go_sem, words8, wordG, r0, r1, r2, r3, r4, r5, r6, r7]) rfl ⟨by rw [← HF.out, decG_full], ?_⟩
      have hB := HO.out.2.2
      exact Lib.hid ((((((((hB.setCell (Nat.le_refl _) _).setCell (Nat.le_refl _) _).setCell (Nat.le_refl _) _).setCell (Nat.le_refl _) _).setCell (Nat.le_refl _) _).setCell (Nat.le_refl _) _).setCell (Nat.le_refl _) _).setCell (Nat.le_refl _) _)
end Go.Proofs.YtnhddgmegnehaaaDoor.Dev
