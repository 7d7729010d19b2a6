/-
  JOINED TEXTS: GDecode GFrom GRfrom GImages GImagesW.
-/
import Derived.Test.YtbonponclcehiaaZG
import Derived.Deep.Cut
import Derived.StillTailTactics
import Derived.BigQuiet
import Derived.Deep.DeepCutAuto
set_option linter.unusedVariables false
set_option linter.unusedSimpArgs false
/-
  DEVICE: decode: the words of a line's bytes.
-/
namespace Go.Proofs.Ytbonponclcehiaa.Dev
open Go.ChangeShapes Go.WideShapes Go.ChangeAt Go.RowKit Go.Proofs.Ytbonponclcehiaa.Mem Go.Proofs.Ytbonponclcehiaa.Args Go.Proofs.Ytbonponclcehiaa.PackMath
theorem add_add (a : Addr) (i j : Nat) : (a.add i).add j = a.add (i + j) := by
  by_cases hj : j = 0
  · subst hj; simp [Addr.add]
  · by_cases hi : i = 0
    · subst hi; simp [Addr.add]
    · simp [Addr.add, hi, hj, Nat.add_assoc]
theorem add_form (a : Addr) (i : Nat) (hi : i ≠ 0) : a.add i = ⟨a.block, a.off + i, none⟩ := by unfold Addr.add; rw [if_neg hi]
theorem add_zero (a : Addr) : a.add 0 = a := rfl
theorem or_step (W b r : Nat) (hW : W < 256 ^ r) (hb : b < 256) (hr : r < 8) : bits .or .u64 (W : Int) ((b * 256 ^ r : Nat) : Int) = ((W + b * 256 ^ r : Nat) : Int) ∧ W + b * 256 ^ r < 256 ^ (r + 1) := by
  refine ⟨or_byte W b r hW hb hr, ?_⟩
  have h1 : 256 ^ (r + 1) = 256 ^ r * 256 := Nat.pow_succ ..
  have h2 : b * 256 ^ r ≤ 255 * 256 ^ r := Nat.mul_le_mul_right _ (by omega)
  omega
/-- The eight bytes from 8 j on, and their word as the code makes it. -/
theorem word_chain (zs : List Int) (j : Nat) (h : 8 * j + 8 ≤ zs.length) (hz : ∀ z ∈ zs, 0 ≤ z ∧ z ≤ 255) :
    ∃ b0 b1 b2 b3 b4 b5 b6 b7 : Nat, b0 < 256 ∧ b1 < 256 ∧ b2 < 256 ∧ b3 < 256 ∧ b4 < 256 ∧ b5 < 256 ∧ b6 < 256 ∧ b7 < 256 ∧
      zs.getD (8 * j + 0) 0 = (b0 : Int) ∧ zs.getD (8 * j + 1) 0 = (b1 : Int) ∧ zs.getD (8 * j + 2) 0 = (b2 : Int) ∧ zs.getD (8 * j + 3) 0 = (b3 : Int) ∧ zs.getD (8 * j + 4) 0 = (b4 : Int) ∧ zs.getD (8 * j + 5) 0 = (b5 : Int) ∧ zs.getD (8 * j + 6) 0 = (b6 : Int) ∧ zs.getD (8 * j + 7) 0 = (b7 : Int) ∧
      bits .or .u64 (bits .or .u64 (bits .or .u64 (bits .or .u64 (bits .or .u64 (bits .or .u64 (bits .or .u64 (b0 : Int) ((b1 : Int) * 256)) ((b2 : Int) * 65536)) ((b3 : Int) * 16777216)) ((b4 : Int) * 4294967296)) ((b5 : Int) * 1099511627776)) ((b6 : Int) * 281474976710656)) ((b7 : Int) * 72057594037927936) = (wordOf zs j : Int) := by
  obtain ⟨b0, h0, g0, e0, m0⟩ := leTo_succ zs (8 * j) 0 (by omega) hz
  obtain ⟨b1, h1, g1, e1, m1⟩ := leTo_succ zs (8 * j) 1 (by omega) hz
  obtain ⟨b2, h2, g2, e2, m2⟩ := leTo_succ zs (8 * j) 2 (by omega) hz
  obtain ⟨b3, h3, g3, e3, m3⟩ := leTo_succ zs (8 * j) 3 (by omega) hz
  obtain ⟨b4, h4, g4, e4, m4⟩ := leTo_succ zs (8 * j) 4 (by omega) hz
  obtain ⟨b5, h5, g5, e5, m5⟩ := leTo_succ zs (8 * j) 5 (by omega) hz
  obtain ⟨b6, h6, g6, e6, m6⟩ := leTo_succ zs (8 * j) 6 (by omega) hz
  obtain ⟨b7, h7, g7, e7, m7⟩ := leTo_succ zs (8 * j) 7 (by omega) hz
  have z0 : leTo zs (8 * j) 0 = 0 := by simp [leTo, le]
  have w8 : leTo zs (8 * j) 8 = wordOf zs j := rfl
  have k1 : (b1 : Int) * 256 = ((b1 * 256 ^ 1 : Nat) : Int) := by rw [Int.natCast_mul]; rfl
  have k2 : (b2 : Int) * 65536 = ((b2 * 256 ^ 2 : Nat) : Int) := by rw [Int.natCast_mul]; rfl
  have k3 : (b3 : Int) * 16777216 = ((b3 * 256 ^ 3 : Nat) : Int) := by rw [Int.natCast_mul]; rfl
  have k4 : (b4 : Int) * 4294967296 = ((b4 * 256 ^ 4 : Nat) : Int) := by rw [Int.natCast_mul]; rfl
  have k5 : (b5 : Int) * 1099511627776 = ((b5 * 256 ^ 5 : Nat) : Int) := by rw [Int.natCast_mul]; rfl
  have k6 : (b6 : Int) * 281474976710656 = ((b6 * 256 ^ 6 : Nat) : Int) := by rw [Int.natCast_mul]; rfl
  have k7 : (b7 : Int) * 72057594037927936 = ((b7 * 256 ^ 7 : Nat) : Int) := by rw [Int.natCast_mul]; rfl
  have e1' : b0 = leTo zs (8 * j) 1 := by rw [e0, z0]; simp
  refine ⟨b0, b1, b2, b3, b4, b5, b6, b7, h0, h1, h2, h3, h4, h5, h6, h7, g0, g1, g2, g3, g4, g5, g6, g7, ?_⟩
  rw [k1, k2, k3, k4, k5, k6, k7, e1']
  rw [or_byte _ b1 1 m1 h1 (by omega), ← e1]
  rw [or_byte _ b2 2 m2 h2 (by omega), ← e2]
  rw [or_byte _ b3 3 m3 h3 (by omega), ← e3]
  rw [or_byte _ b4 4 m4 h4 (by omega), ← e4]
  rw [or_byte _ b5 5 m5 h5 (by omega), ← e5]
  rw [or_byte _ b6 6 m6 h6 (by omega), ← e6]
  rw [or_byte _ b7 7 m7 h7 (by omega), ← e7]
  rw [w8]
def decG (zs : List Int) (k j : Nat) : Nat := if j < k then wordOf zs j else 0
theorem decG_succ (zs : List Int) (k : Nat) : (fun j => if j = k then wordOf zs k else decG zs k j) = decG zs (k + 1) := by
  funext j
  unfold decG
  by_cases h : j = k
  · subst h; simp
  · by_cases h2 : j < k
    · rw [if_neg h, if_pos h2, if_pos (by omega)]
    · rw [if_neg h, if_neg h2, if_neg (by omega)]
theorem decG_full (zs : List Int) : words8 (decG zs 8) = words8 (wordOf zs) := by
  unfold words8 wordG decG
  simp
set_option maxRecDepth 100000 in
set_option maxHeartbeats 1000000 in
theorem decode_any (w : World) (A : Option Addr) (n c B : Nat) (zs : List Int) (hl : zs.length = n) (h64 : 64 ≤ n) (hnc : n ≤ c) (hn : c ≤ maxLen) (hr : Hid (IntsAt .u8 w B A zs)) (hB : B ≤ w.heap.size) (hw : Hid (∀ z ∈ zs, 0 ≤ z ∧ z ≤ 255)) :
    Calls Try.prog 57 #[.slice A n c] w fun q w' => q = .returned (words8 (wordOf zs)) ∧ Hid (Below w.heap.size w w') := by
  have HL := Lib.hid hl
  have hcl : c ≤ 9223372036854775807 := by unfold maxLen at hn; omega
  clear hl
  go_enter Try.func57, Try.ntmps57
  go_wp2
  go_loopw [6] (fun i wr => ∃ j : Nat, j ≤ 8 ∧ i = .int .i64 j ∧ Hid (Blk wr (w.heap.size + 1) 103 8 (wordG (decG zs j)) ∧ Blk wr w.heap.size 103 8 (wordG fun _ => 0) ∧ Below w.heap.size w wr)) (fun i _ => 8 - (intOf i).toNat)
  case atStart => exact ⟨0, by omega, rfl, Lib.hid ⟨words_blk _ _ (decG zs 0) _ (by simp), (words_blk w _ (fun _ => 0) _ rfl).alloc _, ((Below.refl _ _).alloc (Nat.le_refl _) _).alloc (by simp) _⟩⟩
  case round =>
    obtain ⟨j, hj, rfl, HO⟩ := hrel
    by_cases hjk : j < 8
    · have hj8 : (j : Int) < 8 := by omega
      obtain ⟨ad, rfl, hadb, _⟩ := hr.out (8 * j) (by rw [HL.out]; omega)
      have hcell : ∀ i, i < 8 → ∀ b : Nat, zs.getD (8 * j + i) 0 = (b : Int) → wr.cell? ((ad.add (8 * j)).add i) = some (.int .u8 (b : Int)) := fun i hi b hb => by
        obtain ⟨ad', e, _, h⟩ := hr.out (8 * j + i) (by rw [HL.out]; omega)
        cases e
        rw [add_add, ← hb]
        exact (HO.out.2.2.cell (p := ad.add (8 * j + i)) (by rw [add_block]; omega)).trans h
      obtain ⟨b0, b1, b2, b3, b4, b5, b6, b7, h0, h1, h2, h3, h4, h5, h6, h7, g0, g1, g2, g3, g4, g5, g6, g7, hv⟩ := word_chain zs j (by rw [HL.out]; omega) hw.out
      have c0 := hcell 0 (by omega) b0 g0
      rw [add_zero] at c0
      have c1 := hcell 1 (by omega) b1 g1
      rw [add_form _ _ (by omega)] at c1
      have c2 := hcell 2 (by omega) b2 g2
      rw [add_form _ _ (by omega)] at c2
      have c3 := hcell 3 (by omega) b3 g3
      rw [add_form _ _ (by omega)] at c3
      have c4 := hcell 4 (by omega) b4 g4
      rw [add_form _ _ (by omega)] at c4
      have c5 := hcell 5 (by omega) b5 g5
      rw [add_form _ _ (by omega)] at c5
      have c6 := hcell 6 (by omega) b6 g6
      rw [add_form _ _ (by omega)] at c6
      have c7 := hcell 7 (by omega) b7 g7
      rw [add_form _ _ (by omega)] at c7
      obtain ⟨x, hx⟩ : ∃ x, 8 * j = x := ⟨_, rfl⟩
      rw [hx] at c0 c1 c2 c3 c4 c5 c6 c7
      have hx1 : IntKind.i64.wrap ((j : Int) * 8) = (x : Int) := by rw [IntWalk.i64_in _ (by omega)]; omega
      have hx2 : IntKind.i64.wrap (((j : Int) + 1) * 8) = ((x + 8 : Nat) : Int) := by rw [IntWalk.i64_in _ (by omega)]; omega
      have hxn : x + 8 ≤ n := by omega
      have HS := Lib.hid (show Blk ((wr.setCell ⟨w.heap.size + 1, j, none⟩ (.int .u64 (bits .or .u64 (bits .or .u64 (bits .or .u64 (bits .or .u64 (bits .or .u64 (bits .or .u64 (bits .or .u64 (b0 : Int) ((b1 : Int) * 256)) ((b2 : Int) * 65536)) ((b3 : Int) * 16777216)) ((b4 : Int) * 4294967296)) ((b5 : Int) * 1099511627776)) ((b6 : Int) * 281474976710656)) ((b7 : Int) * 72057594037927936)))).drew) (w.heap.size + 1) 103 8 (wordG (decG zs (j + 1))) ∧ Blk ((wr.setCell ⟨w.heap.size + 1, j, none⟩ (.int .u64 (bits .or .u64 (bits .or .u64 (bits .or .u64 (bits .or .u64 (bits .or .u64 (bits .or .u64 (bits .or .u64 (b0 : Int) ((b1 : Int) * 256)) ((b2 : Int) * 65536)) ((b3 : Int) * 16777216)) ((b4 : Int) * 4294967296)) ((b5 : Int) * 1099511627776)) ((b6 : Int) * 281474976710656)) ((b7 : Int) * 72057594037927936)))).drew) w.heap.size 103 8 (wordG fun _ => 0) ∧ Below w.heap.size w ((wr.setCell ⟨w.heap.size + 1, j, none⟩ (.int .u64 (bits .or .u64 (bits .or .u64 (bits .or .u64 (bits .or .u64 (bits .or .u64 (bits .or .u64 (bits .or .u64 (b0 : Int) ((b1 : Int) * 256)) ((b2 : Int) * 65536)) ((b3 : Int) * 16777216)) ((b4 : Int) * 4294967296)) ((b5 : Int) * 1099511627776)) ((b6 : Int) * 281474976710656)) ((b7 : Int) * 72057594037927936)))).drew) from by
        refine ⟨?_, (HO.out.2.1.setOther (by simp) _).drew, (HO.out.2.2.setCell (by simp) _).drew⟩
        rw [hv]
        have := (HO.out.1.set j (.int .u64 (wordOf zs j : Int))).drew
        rw [wordG_upd, decG_succ] at this
        exact this)
      have hc1 : wr.drew.cell? ⟨w.heap.size + 1, j, none⟩ = some (wordG (decG zs j) j) := HO.out.1.cell hjk
      have hf1 : wr.drew.frozen? ⟨w.heap.size + 1, j, none⟩ = false := HO.out.1.frozen _
      have hwj : IntKind.i64.wrap (j : Int) = (j : Int) := IntWalk.i64_in _ ⟨by omega, by omega⟩
      have hj0 : (0 : Int) ≤ (j : Int) := by omega
      clear hcell g0 g1 g2 g3 g4 g5 g6 g7 hv hx
      go_wp2_with fail
      go_still_tail 48, (by kernel_rfl)
      repeat still_step
      try refine wpStill_nil ?_
      change wpList _ _ _ _ _ wr.drew
      clear c0 c1 c2 c3 c4 c5 c6 c7
      go_wp2
      go_roundw
      case rel => exact ⟨j + 1, by omega, by go_num, HS⟩
      case measure => simp [intOf]; omega
    · have hkj : j = 8 := by omega
      subst hkj
      obtain ⟨F, hF⟩ : ∃ F, decG zs 8 = F := ⟨_, rfl⟩
      rw [hF] at HO
      have HF := Lib.hid hF
      clear hF
      have h0 := HO.out.1.cell (o := 0) (by decide)
      have r0 := HO.out.2.1.cell (o := 0) (by decide)
      have z0 := HO.out.2.1.frozen 0
      have h1 := HO.out.1.cell (o := 1) (by decide)
      have r1 := HO.out.2.1.cell (o := 1) (by decide)
      have z1 := HO.out.2.1.frozen 1
      have h2 := HO.out.1.cell (o := 2) (by decide)
      have r2 := HO.out.2.1.cell (o := 2) (by decide)
      have z2 := HO.out.2.1.frozen 2
      have h3 := HO.out.1.cell (o := 3) (by decide)
      have r3 := HO.out.2.1.cell (o := 3) (by decide)
      have z3 := HO.out.2.1.frozen 3
      have h4 := HO.out.1.cell (o := 4) (by decide)
      have r4 := HO.out.2.1.cell (o := 4) (by decide)
      have z4 := HO.out.2.1.frozen 4
      have h5 := HO.out.1.cell (o := 5) (by decide)
      have r5 := HO.out.2.1.cell (o := 5) (by decide)
      have z5 := HO.out.2.1.frozen 5
      have h6 := HO.out.1.cell (o := 6) (by decide)
      have r6 := HO.out.2.1.cell (o := 6) (by decide)
      have z6 := HO.out.2.1.frozen 6
      have h7 := HO.out.1.cell (o := 7) (by decide)
      have r7 := HO.out.2.1.cell (o := 7) (by decide)
      have z7 := HO.out.2.1.frozen 7
      unfold wordG at h0 h1 h2 h3 h4 h5 h6 h7 r0 r1 r2 r3 r4 r5 r6 r7
      go_wp2
      refine bodyPost_ret (v := words8 F) (by simp [results, Try.results57, go_sem, words8, wordG, r0, r1, r2, r3, r4, r5, r6, r7]) rfl ⟨by rw [← HF.out, decG_full], ?_⟩
      have hB := HO.out.2.2
      exact Lib.hid ((((((((hB.setCell (Nat.le_refl _) _).setCell (Nat.le_refl _) _).setCell (Nat.le_refl _) _).setCell (Nat.le_refl _) _).setCell (Nat.le_refl _) _).setCell (Nat.le_refl _) _).setCell (Nat.le_refl _) _).setCell (Nat.le_refl _) _)
end Go.Proofs.Ytbonponclcehiaa.Dev
/-
  From, of the device.
-/
namespace Go.Proofs.Ytbonponclcehiaa.Dev
open Go.ChangeShapes Go.WideShapes Go.ChangeAt Go.RowKit Go.Proofs.Ytbonponclcehiaa.Mem Go.Proofs.Ytbonponclcehiaa.Args Go.Proofs.Ytbonponclcehiaa.Own Go.Proofs.Ytbonponclcehiaa.PackMath
theorem IntsAt.drop {k : IntKind} {w : World} {B : Nat} {a : Addr} {zs : List Int} (h : IntsAt k w B (some a) zs) (m : Nat) : IntsAt k w B (some (a.add m)) (zs.drop m) := fun i hi => by
  rw [List.length_drop] at hi
  obtain ⟨ad, e, hb, hc⟩ := h (m + i) (by omega)
  cases e
  refine ⟨a.add m, rfl, by rw [add_block]; exact hb, ?_⟩
  rw [add_add, hc]
  simp [List.getD, List.getElem?_drop]
theorem wordOf_drop (zs : List Int) (k j : Nat) : wordOf (zs.drop (64 * k)) j = wordOf zs (8 * k + j) := by
  unfold wordOf pkw
  rw [List.drop_drop, show 64 * k + 8 * j = 8 * (8 * k + j) by omega]
theorem fromK_hist (zs : List Int) (n k i : Nat) : (St.fromK zs n k).hist i = [] := rfl
section
variable {w w' : World} {base : Nat} {A : Adr} {S S' : St}
/-- One line was written, its history is none. -/
theorem IsDev.lineNil (h : IsDev w base A S) {l : Nat} (hl : l < S.n) (hn : S'.n = S.n) (hnt : S'.notes = S.notes) (her : S'.err = S.err) (hex : S'.ex = S.ex) (hof : S'.off = S.off) (hle : S'.left = S.left)
    (hot : ∀ i, i ≠ l → S'.pers i = S.pers i ∧ S'.hist i = S.hist i ∧ S'.gone i = S.gone i) (hh0 : S'.hist l = []) (g' : Nat → Value) (hB : Blk w' A.lb 106 (S.n * 18) g') (hg : ∀ o, (o < l * 18 ∨ l * 18 + 18 ≤ o) → g' o = linesG A S o)
    (h1 : ∀ j, j < 8 → g' (l * 18 + j) = wordG (S'.pers l) j) (h2 : ∀ j, j < 8 → g' (l * 18 + 8 + j) = wordG (S'.cur l) j) (h3 : g' (l * 18 + 16) = .slice none 0 0) (h4 : g' (l * 18 + 17) = .int .u64 (S'.gone l : Int))
    (ho : Only (fun b => b = A.lb) w w') : IsDev w' base { A with hv := fun i => if i = l then .slice none 0 0 else A.hv i } S' := by
  refine ⟨?_, ?_, fun i hi => ?_, fun t ht => ?_, ?_, h.bd, h.bl⟩
  · have := ho.blk h.dev (fun e => h.apart.dl e)
    refine this.ext fun o _ => ?_
    unfold devG
    simp only [hn, her, hex, hof, hle]
  · rw [hn]
    refine hB.ext fun o ho' => ?_
    by_cases e : o / 18 = l
    · have e2 : o = l * 18 + o % 18 := by omega
      unfold linesG
      simp only
      by_cases k1 : o % 18 < 8
      · rw [if_pos k1, e, e2, h1 _ k1, show (l * 18 + o % 18) % 18 = o % 18 by omega]
      · by_cases k2 : o % 18 < 16
        · rw [if_neg k1, if_pos k2, e, show g' o = g' (l * 18 + 8 + (o % 18 - 8)) by congr 1; omega, h2 _ (by omega)]
        · by_cases k3 : o % 18 = 16
          · rw [if_neg k1, if_neg k2, if_pos k3, e, if_pos rfl, show g' o = g' (l * 18 + 16) by congr 1; omega, h3]
          · rw [if_neg k1, if_neg k2, if_neg k3, e, show g' o = g' (l * 18 + 17) by congr 1; omega, h4]
    · rw [hg o (by omega)]
      obtain ⟨a1, a2, a3⟩ := hot _ e
      exact linesG_ext a1 a2 a3 (by simp only; rw [if_neg e])
  · rw [hn] at hi
    by_cases e : i = l
    · subst e; simp only [if_true]; rw [hh0]; exact Hist.nil_ _ _
    · simp only [if_neg e]
      rw [(hot i e).2.1]
      exact (h.hist i hi).only ho fun b hb hx => h.apart.hl i hi (by rw [hb, hx])
  · rw [hnt, hex]
    rcases h.maps t ht with m1 | ⟨b, m1, m2, m3⟩
    · exact .inl m1
    · exact .inr ⟨b, m1, m2, m3.of_block (ho.block b (h.ownLt b (.inr (.inr (.inr ⟨t, ht, m1⟩)))) fun e => h.apart.ml t ht (by rw [m1, e]))⟩
  · rw [hn]
    refine ⟨h.apart.dl, fun i hi => ?_, fun i hi => ?_, fun i j hi hj hne b hb => ?_, h.apart.md, h.apart.ml, fun t i ht hi b hb => ?_, h.apart.mm⟩
    · simp only
      split
      · intro e; cases e
      · exact h.apart.hd i hi
    · simp only
      split
      · intro e; cases e
      · exact h.apart.hl i hi
    · simp only at hb ⊢
      by_cases e1 : i = l
      · rw [if_pos e1] at hb; cases hb
      · rw [if_neg e1] at hb
        by_cases e2 : j = l
        · rw [if_pos e2]; intro e; cases e
        · rw [if_neg e2]; exact h.apart.hh i j hi hj hne b hb
    · simp only
      split
      · intro e; cases e
      · exact h.apart.mh t i ht hi b hb
end
theorem fromK_pers (zs : List Int) (n k j : Nat) : (St.fromK zs n (k + 1)).pers k j = wordOf zs (8 * k + j) := by
  show (if k < k + 1 then wordOf zs (8 * k + j) else 0) = _
  rw [if_pos (by omega)]
theorem fromK_other (zs : List Int) (n k i : Nat) (h : i ≠ k) : (St.fromK zs n (k + 1)).pers i = (St.fromK zs n k).pers i := by
  funext j
  show (if i < k + 1 then _ else _) = (if i < k then _ else _)
  by_cases h1 : i < k
  · rw [if_pos h1, if_pos (by omega)]
  · rw [if_neg h1, if_neg (by omega)]
set_option maxRecDepth 100000 in
set_option maxHeartbeats 1000000 in
theorem dfrom_any (w : World) (P : Option Addr) (len c B n : Nat) (zs : List Int) (hl : zs.length = len) (hln : len = 64 * n) (h0 : 1 ≤ n) (h1 : n ≤ 4096) (hlc : len ≤ c) (hc : c ≤ maxLen) (hr : IntsAt .u8 w B P zs) (hB : B ≤ w.heap.size) (hz : ∀ z ∈ zs, 0 ≤ z ∧ z ≤ 255) :
    Calls Try.prog 18 #[.slice P len c] w fun e w' => ∃ A : Adr, e = .returned (.tuple #[.pointer (some ⟨A.d, 0, none⟩), .int .i64 0]) ∧ Hid (IsDev w' w.heap.size A (St.fromK zs n n) ∧ Below w.heap.size w w') := by
  have HL := Lib.hid hl
  have HR := Lib.hid hr
  have HZ := Lib.hid hz
  have hcl : c ≤ 9223372036854775807 := by unfold maxLen at hc; omega
  have hm1 : (len : Int) % 64 = 0 := by omega
  have hm2 : (len : Int).tmod 64 = 0 := by rw [Int.tmod_eq_emod_of_nonneg (by omega)]; exact hm1
  have hq1 : (len : Int) / 64 = (n : Int) := by omega
  have hq2 : (len : Int).tdiv 64 = (n : Int) := by rw [Int.tdiv_eq_ediv_of_nonneg (by omega)]; exact hq1
  have HMAX := Lib.hid hc
  have HNE := Lib.hid (new_any w n h0 h1)
  have HLN := Lib.hid hln
  clear hl hr hz hc hln
  go_enter Try.func18, Try.ntmps18
  go_wp2_with (go_at_call 14; go_must (refine HNE.out.mono ?_); rintro e w1 ⟨A, rfl, H1⟩; have c0 : w1.cell? ⟨A.d, 0, none⟩ = some (.slice (some ⟨A.lb, 0, none⟩) n n) := H1.out.1.db.c0)
  clear hm1 hm2 hq1 hq2 c0
  go_loopw [27] (fun i wr => ∃ k : Nat, k ≤ n ∧ i = .int .i64 k ∧ Hid (∃ A' : Adr, A'.d = A.d ∧ A'.lb = A.lb ∧ IsDev wr w.heap.size A' (St.fromK zs n k) ∧ Below w.heap.size w wr)) (fun i _ => n - (intOf i).toNat)
  case atStart => exact ⟨0, by omega, rfl, Lib.hid ⟨A, rfl, rfl, by rw [St.fromK_zero]; exact H1.out.1, H1.out.2⟩⟩
  case round =>
    obtain ⟨k, hk, rfl, HO⟩ := hrel
    obtain ⟨A', ed, el, hdev, hbw⟩ := HO.out
    have HD := Lib.hid hdev
    have HBW := Lib.hid hbw
    have HED := Lib.hid ed
    have HEL := Lib.hid el
    by_cases hkn : k < n
    · have hki : (k : Int) < (n : Int) := by omega
      obtain ⟨ad, rfl, hadb, _⟩ := HR.out (64 * k) (by rw [HL.out, HLN.out]; omega)
      obtain ⟨q, hq⟩ : ∃ q, 64 * k = q := ⟨_, rfl⟩
      have hqi : IntKind.i64.wrap ((k : Int) * 64) = (q : Int) := by rw [IntWalk.i64_in _ (by have := HLN.out; omega)]; omega
      have hqn : q + 64 ≤ len := by rw [HLN.out]; omega
      have HQ := Lib.hid hq
      have hql : (q : Int) ≤ (len : Int) := by omega
      have HDE : Hid (Calls Try.prog 57 #[.slice (some (ad.add q)) (len - q) (c - q)] wr fun r w' => r = .returned (words8 (wordOf (zs.drop q))) ∧ Hid (Below wr.heap.size wr w')) := Lib.hid (by
        refine decode_any wr _ _ _ w.heap.size (zs.drop q) (by rw [List.length_drop, HL.out]) (by omega) (by omega) (by have := HMAX.out; omega) (Lib.hid ?_) hbw.size (Lib.hid fun z hz => HZ.out z (List.mem_of_mem_drop hz))
        exact IntsAt.below ((IntsAt.drop HR.out q).more hB) hbw)
      have c0 : wr.cell? ⟨A.d, 0, none⟩ = some (.slice (some ⟨A.lb, 0, none⟩) n n) := by rw [← ed, ← el]; exact hdev.db.c0
      clear HO ed el hdev hbw hq
      go_upto_region 10 with (go_at_call 57; go_must (refine HDE.out.mono ?_); rintro e w2 ⟨he, H2⟩; simp only [words8, wordG] at he; subst he)
      have HFW : Hid (∀ j, wordOf (zs.drop q) j = wordOf zs (8 * k + j)) := Lib.hid fun j => by rw [← HQ.out]; exact wordOf_drop zs k j
      obtain ⟨F, hF⟩ : ∃ F, (fun j => wordOf (zs.drop q) j) = F := ⟨_, rfl⟩
      have hFj : ∀ j, wordOf (zs.drop q) j = F j := fun j => by rw [← hF]
      simp only [hFj]
      have HFF : Hid (∀ j, F j = wordOf zs (8 * k + j)) := Lib.hid fun j => by rw [← hFj]; exact HFW.out j
      clear hF hFj HFW HDE
      obtain ⟨wa, hwa⟩ : ∃ wa, wa = w2.alloc (.cells #[.int .u64 (F 0 : Int), .int .u64 (F 1 : Int), .int .u64 (F 2 : Int), .int .u64 (F 3 : Int), .int .u64 (F 4 : Int), .int .u64 (F 5 : Int), .int .u64 (F 6 : Int), .int .u64 (F 7 : Int)] 103) := ⟨_, rfl⟩
      rw [← hwa]
      have hwb : Blk wa w2.heap.size 103 8 (wordG F) := by rw [hwa]; exact words_blk w2 _ F _ rfl
      have hba : Below wr.heap.size wr wa := by rw [hwa]; exact H2.out.alloc H2.out.size _
      have HID : Hid (IsDev wa.drew w.heap.size A' (St.fromK zs n k)) := Lib.hid ((HD.out.below hba (Nat.le_refl _)).below (Below.refl wa.heap.size wa).drew (Nat.le_refl _))
      have HBL : Hid (Blk wa.drew A.lb 106 (n * 18) (linesG A' (St.fromK zs n k))) := Lib.hid (by rw [← HEL.out]; exact HID.out.lines)
      have HB2 : Hid (Below w.heap.size w wa.drew) := Lib.hid (HBW.out.trans (hba.drew.mono HBW.out.size))
      have c0a : wa.cell? ⟨A.d, 0, none⟩ = some (.slice (some ⟨A.lb, 0, none⟩) n n) := by rw [← HED.out, ← HEL.out]; exact (HD.out.below hba (Nat.le_refl _)).db.c0
      have f0 : wa.cell? ⟨w2.heap.size, 0, none⟩ = some (.int .u64 (F 0 : Int)) := hwb.cell (o := 0) (by decide)
      have f1 : wa.cell? ⟨w2.heap.size, 1, none⟩ = some (.int .u64 (F 1 : Int)) := hwb.cell (o := 1) (by decide)
      have f2 : wa.cell? ⟨w2.heap.size, 2, none⟩ = some (.int .u64 (F 2 : Int)) := hwb.cell (o := 2) (by decide)
      have f3 : wa.cell? ⟨w2.heap.size, 3, none⟩ = some (.int .u64 (F 3 : Int)) := hwb.cell (o := 3) (by decide)
      have f4 : wa.cell? ⟨w2.heap.size, 4, none⟩ = some (.int .u64 (F 4 : Int)) := hwb.cell (o := 4) (by decide)
      have f5 : wa.cell? ⟨w2.heap.size, 5, none⟩ = some (.int .u64 (F 5 : Int)) := hwb.cell (o := 5) (by decide)
      have f6 : wa.cell? ⟨w2.heap.size, 6, none⟩ = some (.int .u64 (F 6 : Int)) := hwb.cell (o := 6) (by decide)
      have f7 : wa.cell? ⟨w2.heap.size, 7, none⟩ = some (.int .u64 (F 7 : Int)) := hwb.cell (o := 7) (by decide)
      have hk0 : (0 : Int) ≤ (k : Int) := by omega
      have hwk : IntKind.i64.wrap (k : Int) = (k : Int) := IntWalk.i64_in _ (by omega)
      clear hwb hba hwa H2 c0
      go_still_tail 9, (by kernel_rfl)
      repeat still_step
      try refine wpStill_nil ?_
      change wpList _ _ _ _ _ wa.drew
      clear f0 f1 f2 f3 f4 f5 f6 f7 c0a
      generalize wa.drew = wd at *
      have l0 := HBL.out.cell (o := k * 18) (by omega)
      have z0 := HBL.out.frozen (k * 18)
      have l1 := HBL.out.cell (o := k * 18 + 1) (by omega)
      have z1 := HBL.out.frozen (k * 18 + 1)
      have l2 := HBL.out.cell (o := k * 18 + 2) (by omega)
      have z2 := HBL.out.frozen (k * 18 + 2)
      have l3 := HBL.out.cell (o := k * 18 + 3) (by omega)
      have z3 := HBL.out.frozen (k * 18 + 3)
      have l4 := HBL.out.cell (o := k * 18 + 4) (by omega)
      have z4 := HBL.out.frozen (k * 18 + 4)
      have l5 := HBL.out.cell (o := k * 18 + 5) (by omega)
      have z5 := HBL.out.frozen (k * 18 + 5)
      have l6 := HBL.out.cell (o := k * 18 + 6) (by omega)
      have z6 := HBL.out.frozen (k * 18 + 6)
      have l7 := HBL.out.cell (o := k * 18 + 7) (by omega)
      have z7 := HBL.out.frozen (k * 18 + 7)
      have l8 := HBL.out.cell (o := k * 18 + 8) (by omega)
      have z8 := HBL.out.frozen (k * 18 + 8)
      have l9 := HBL.out.cell (o := k * 18 + 9) (by omega)
      have z9 := HBL.out.frozen (k * 18 + 9)
      have l10 := HBL.out.cell (o := k * 18 + 10) (by omega)
      have z10 := HBL.out.frozen (k * 18 + 10)
      have l11 := HBL.out.cell (o := k * 18 + 11) (by omega)
      have z11 := HBL.out.frozen (k * 18 + 11)
      have l12 := HBL.out.cell (o := k * 18 + 12) (by omega)
      have z12 := HBL.out.frozen (k * 18 + 12)
      have l13 := HBL.out.cell (o := k * 18 + 13) (by omega)
      have z13 := HBL.out.frozen (k * 18 + 13)
      have l14 := HBL.out.cell (o := k * 18 + 14) (by omega)
      have z14 := HBL.out.frozen (k * 18 + 14)
      have l15 := HBL.out.cell (o := k * 18 + 15) (by omega)
      have z15 := HBL.out.frozen (k * 18 + 15)
      have l16 := HBL.out.cell (o := k * 18 + 16) (by omega)
      have z16 := HBL.out.frozen (k * 18 + 16)
      have l17 := HBL.out.cell (o := k * 18 + 17) (by omega)
      have z17 := HBL.out.frozen (k * 18 + 17)
      have HS : Hid (∃ A'' : Adr, A''.d = A.d ∧ A''.lb = A.lb ∧ IsDev ((((((((((((((((((wd.setCell ⟨A.lb, k * 18, none⟩ (.int .u64 (F 0 : Int))).setCell ⟨A.lb, k * 18 + 1, none⟩ (.int .u64 (F 1 : Int))).setCell ⟨A.lb, k * 18 + 2, none⟩ (.int .u64 (F 2 : Int))).setCell ⟨A.lb, k * 18 + 3, none⟩ (.int .u64 (F 3 : Int))).setCell ⟨A.lb, k * 18 + 4, none⟩ (.int .u64 (F 4 : Int))).setCell ⟨A.lb, k * 18 + 5, none⟩ (.int .u64 (F 5 : Int))).setCell ⟨A.lb, k * 18 + 6, none⟩ (.int .u64 (F 6 : Int))).setCell ⟨A.lb, k * 18 + 7, none⟩ (.int .u64 (F 7 : Int))).setCell ⟨A.lb, k * 18 + 8, none⟩ (.int .u64 (F 0 : Int))).setCell ⟨A.lb, k * 18 + 9, none⟩ (.int .u64 (F 1 : Int))).setCell ⟨A.lb, k * 18 + 10, none⟩ (.int .u64 (F 2 : Int))).setCell ⟨A.lb, k * 18 + 11, none⟩ (.int .u64 (F 3 : Int))).setCell ⟨A.lb, k * 18 + 12, none⟩ (.int .u64 (F 4 : Int))).setCell ⟨A.lb, k * 18 + 13, none⟩ (.int .u64 (F 5 : Int))).setCell ⟨A.lb, k * 18 + 14, none⟩ (.int .u64 (F 6 : Int))).setCell ⟨A.lb, k * 18 + 15, none⟩ (.int .u64 (F 7 : Int))).setCell ⟨A.lb, k * 18 + 16, none⟩ (.slice none 0 0)).setCell ⟨A.lb, k * 18 + 17, none⟩ (.int .u64 0)) w.heap.size A'' (St.fromK zs n (k + 1)) ∧ Below w.heap.size w ((((((((((((((((((wd.setCell ⟨A.lb, k * 18, none⟩ (.int .u64 (F 0 : Int))).setCell ⟨A.lb, k * 18 + 1, none⟩ (.int .u64 (F 1 : Int))).setCell ⟨A.lb, k * 18 + 2, none⟩ (.int .u64 (F 2 : Int))).setCell ⟨A.lb, k * 18 + 3, none⟩ (.int .u64 (F 3 : Int))).setCell ⟨A.lb, k * 18 + 4, none⟩ (.int .u64 (F 4 : Int))).setCell ⟨A.lb, k * 18 + 5, none⟩ (.int .u64 (F 5 : Int))).setCell ⟨A.lb, k * 18 + 6, none⟩ (.int .u64 (F 6 : Int))).setCell ⟨A.lb, k * 18 + 7, none⟩ (.int .u64 (F 7 : Int))).setCell ⟨A.lb, k * 18 + 8, none⟩ (.int .u64 (F 0 : Int))).setCell ⟨A.lb, k * 18 + 9, none⟩ (.int .u64 (F 1 : Int))).setCell ⟨A.lb, k * 18 + 10, none⟩ (.int .u64 (F 2 : Int))).setCell ⟨A.lb, k * 18 + 11, none⟩ (.int .u64 (F 3 : Int))).setCell ⟨A.lb, k * 18 + 12, none⟩ (.int .u64 (F 4 : Int))).setCell ⟨A.lb, k * 18 + 13, none⟩ (.int .u64 (F 5 : Int))).setCell ⟨A.lb, k * 18 + 14, none⟩ (.int .u64 (F 6 : Int))).setCell ⟨A.lb, k * 18 + 15, none⟩ (.int .u64 (F 7 : Int))).setCell ⟨A.lb, k * 18 + 16, none⟩ (.slice none 0 0)).setCell ⟨A.lb, k * 18 + 17, none⟩ (.int .u64 0))) := Lib.hid (by
        have hlb := HEL.out
        have hO := (((((((((((((((((((Only.refl (fun b => b = A'.lb) wd).set ⟨A'.lb, k * 18, none⟩ (.int .u64 (F 0 : Int)) (.inl rfl)).set ⟨A'.lb, k * 18 + 1, none⟩ (.int .u64 (F 1 : Int)) (.inl rfl)).set ⟨A'.lb, k * 18 + 2, none⟩ (.int .u64 (F 2 : Int)) (.inl rfl)).set ⟨A'.lb, k * 18 + 3, none⟩ (.int .u64 (F 3 : Int)) (.inl rfl)).set ⟨A'.lb, k * 18 + 4, none⟩ (.int .u64 (F 4 : Int)) (.inl rfl)).set ⟨A'.lb, k * 18 + 5, none⟩ (.int .u64 (F 5 : Int)) (.inl rfl)).set ⟨A'.lb, k * 18 + 6, none⟩ (.int .u64 (F 6 : Int)) (.inl rfl)).set ⟨A'.lb, k * 18 + 7, none⟩ (.int .u64 (F 7 : Int)) (.inl rfl)).set ⟨A'.lb, k * 18 + 8, none⟩ (.int .u64 (F 0 : Int)) (.inl rfl)).set ⟨A'.lb, k * 18 + 9, none⟩ (.int .u64 (F 1 : Int)) (.inl rfl)).set ⟨A'.lb, k * 18 + 10, none⟩ (.int .u64 (F 2 : Int)) (.inl rfl)).set ⟨A'.lb, k * 18 + 11, none⟩ (.int .u64 (F 3 : Int)) (.inl rfl)).set ⟨A'.lb, k * 18 + 12, none⟩ (.int .u64 (F 4 : Int)) (.inl rfl)).set ⟨A'.lb, k * 18 + 13, none⟩ (.int .u64 (F 5 : Int)) (.inl rfl)).set ⟨A'.lb, k * 18 + 14, none⟩ (.int .u64 (F 6 : Int)) (.inl rfl)).set ⟨A'.lb, k * 18 + 15, none⟩ (.int .u64 (F 7 : Int)) (.inl rfl)).set ⟨A'.lb, k * 18 + 16, none⟩ (.slice none 0 0) (.inl rfl)).set ⟨A'.lb, k * 18 + 17, none⟩ (.int .u64 0) (.inl rfl))
        have hlb2 : A.lb = A'.lb := hlb.symm
        rw [hlb2]
        refine ⟨{ A' with hv := fun i => if i = k then .slice none 0 0 else A'.hv i }, HED.out, rfl, HID.out.lineNil (S' := St.fromK zs n (k + 1)) (l := k) hkn rfl rfl rfl rfl rfl rfl (fun i hi => ⟨fromK_other zs n k i hi, rfl, rfl⟩) rfl _ (by rw [← hlb] at HBL; exact ((((((((((((((((((HBL.out.set (k * 18) (.int .u64 (F 0 : Int))).set (k * 18 + 1) (.int .u64 (F 1 : Int))).set (k * 18 + 2) (.int .u64 (F 2 : Int))).set (k * 18 + 3) (.int .u64 (F 3 : Int))).set (k * 18 + 4) (.int .u64 (F 4 : Int))).set (k * 18 + 5) (.int .u64 (F 5 : Int))).set (k * 18 + 6) (.int .u64 (F 6 : Int))).set (k * 18 + 7) (.int .u64 (F 7 : Int))).set (k * 18 + 8) (.int .u64 (F 0 : Int))).set (k * 18 + 9) (.int .u64 (F 1 : Int))).set (k * 18 + 10) (.int .u64 (F 2 : Int))).set (k * 18 + 11) (.int .u64 (F 3 : Int))).set (k * 18 + 12) (.int .u64 (F 4 : Int))).set (k * 18 + 13) (.int .u64 (F 5 : Int))).set (k * 18 + 14) (.int .u64 (F 6 : Int))).set (k * 18 + 15) (.int .u64 (F 7 : Int))).set (k * 18 + 16) (.slice none 0 0)).set (k * 18 + 17) (.int .u64 0))) (fun o ho => ?_) (fun j hj => ?_) (fun j hj => ?_) ?_ ?_ hO, HB2.out.trans (hO.below HB2.out.size (fun b hb => by rw [hb]; exact HID.out.bl))⟩
        · simp only [upd]
          repeat (rw [if_neg (by omega)])
        · unfold wordG
          rw [fromK_pers, ← HFF.out]
          match j, hj with
          | 0, _ => simp [upd]
          | 1, _ => simp [upd]
          | 2, _ => simp [upd]
          | 3, _ => simp [upd]
          | 4, _ => simp [upd]
          | 5, _ => simp [upd]
          | 6, _ => simp [upd]
          | 7, _ => simp [upd]
        · show _ = wordG ((St.fromK zs n (k + 1)).pers k) j
          unfold wordG
          rw [fromK_pers, ← HFF.out]
          match j, hj with
          | 0, _ => simp [upd]
          | 1, _ => simp [upd]
          | 2, _ => simp [upd]
          | 3, _ => simp [upd]
          | 4, _ => simp [upd]
          | 5, _ => simp [upd]
          | 6, _ => simp [upd]
          | 7, _ => simp [upd]
        · simp [upd]
        · simp [upd]; rfl)
      go_wp2
      go_roundw
      case rel => exact ⟨k + 1, by omega, by go_num, HS⟩
      case measure => simp [intOf]; omega
    · have hkn2 : k = n := by omega
      subst hkn2
      have c0 : wr.cell? ⟨A.d, 0, none⟩ = some (.slice (some ⟨A.lb, 0, none⟩) k k) := by rw [← ed, ← el]; exact hdev.db.c0
      clear ed el hdev hbw
      go_wp2
      go_ret2
      exact ⟨A', by rw [HED.out]; rfl, Lib.hid ⟨HD.out, HBW.out⟩⟩
end Go.Proofs.Ytbonponclcehiaa.Dev
/-
  From, of the reference.
-/
namespace Go.Proofs.Ytbonponclcehiaa.Dev
open Go.ChangeShapes Go.WideShapes Go.ChangeAt Go.RowKit Go.Proofs.Ytbonponclcehiaa.Mem Go.Proofs.Ytbonponclcehiaa.Args Go.Proofs.Ytbonponclcehiaa.Own Go.Proofs.Ytbonponclcehiaa.PackMath
theorem fromB_step (zs : List Int) (n m : Nat) (hm : m < zs.length) (hz : ∀ z ∈ zs, 0 ≤ z ∧ z ≤ 255) :
    ∃ b : Nat, b < 256 ∧ zs.getD m 0 = (b : Int) ∧ wordOf (zs.take m) (m / 8) < 256 ^ (m % 8) ∧ wordOf (zs.take (m + 1)) (m / 8) = wordOf (zs.take m) (m / 8) + b * 256 ^ (m % 8) ∧ ∀ x, x ≠ m / 8 → wordOf (zs.take (m + 1)) x = wordOf (zs.take m) x := by
  have hg : zs.getD m 0 = zs[m] := getD_at hm
  have hb := hz _ (List.getElem_mem hm)
  have hs := pkw_small zs m hm hz
  have hp : ((256 ^ (m % 8) : Nat) : Int) = 256 ^ (m % 8) := by rw [Int.natCast_pow]; rfl
  refine ⟨zs[m].toNat, by omega, by rw [hg]; omega, ?_, ?_, fun x hx => ?_⟩
  · unfold wordOf; omega
  · have h1 := pkw_same zs m hm
    rw [hg] at h1
    have h3 : ((zs[m].toNat * 256 ^ (m % 8) : Nat) : Int) = zs[m] * 256 ^ (m % 8) := by
      rw [Int.natCast_mul, hp, Int.toNat_of_nonneg hb.1]
    unfold wordOf
    rw [h1]
    omega
  · unfold wordOf
    rw [pkw_other zs m x hm hx]
theorem rfrom_lines (A : RAdr) (zs : List Int) (n m l j v' : Nat) (hl : m / 64 = l) (hj : m % 64 / 8 = j) (hv : wordOf (zs.take (m + 1)) (8 * l + j) = v') (ho : ∀ x, x ≠ 8 * l + j → wordOf (zs.take (m + 1)) x = wordOf (zs.take m) x) (o : Nat) :
    rlinesG A (St.fromB zs n (m + 1)) o = upd (rlinesG A (St.fromB zs n m)) (l * 10 + j) (.int .u64 (v' : Int)) o := by
  have hp : ∀ i x, (St.fromB zs n (m + 1)).pers i x = wordOf (zs.take (m + 1)) (8 * i + x) := fun i x => rfl
  have hp2 : ∀ i x, (St.fromB zs n m).pers i x = wordOf (zs.take m) (8 * i + x) := fun i x => rfl
  by_cases e : o = l * 10 + j
  · subst e
    rw [upd_same]
    unfold rlinesG wordG
    rw [if_pos (by omega), hp, show 8 * ((l * 10 + j) / 10) + (l * 10 + j) % 10 = 8 * l + j by omega, hv]
  · rw [upd_other _ _ e]
    unfold rlinesG wordG
    by_cases k1 : o % 10 < 8
    · rw [if_pos k1, if_pos k1, hp, hp2, ho _ (by omega)]
    · rw [if_neg k1, if_neg k1]; rfl
set_option maxRecDepth 100000 in
set_option maxHeartbeats 1000000 in
theorem rfrom_any (w : World) (P : Option Addr) (len c B n : Nat) (zs : List Int) (hl : zs.length = len) (hln : len = 64 * n) (h0 : 1 ≤ n) (h1 : n ≤ 4096) (hr : IntsAt .u8 w B P zs) (hB : B ≤ w.heap.size) (hz : ∀ z ∈ zs, 0 ≤ z ∧ z ≤ 255) :
    Calls Try.prog 19 #[.slice P len c] w fun e w' => ∃ A : RAdr, e = .returned (.pointer (some ⟨A.d, 0, none⟩)) ∧ Hid (IsRef w' w.heap.size A (St.fromK zs n n) ∧ Below w.heap.size w w') := by
  have HL := Lib.hid hl
  have HR := Lib.hid hr
  have HZ := Lib.hid hz
  have HLN := Lib.hid hln
  have hq1 : (len : Int) / 64 = (n : Int) := by omega
  have hq2 : (len : Int).tdiv 64 = (n : Int) := by rw [Int.tdiv_eq_ediv_of_nonneg (by omega)]; exact hq1
  have HNE := Lib.hid (rnew_any w n h0 h1)
  clear hl hr hz hln
  go_enter Try.func19, Try.ntmps19
  go_wp2_with (go_at_call 16; go_must (refine HNE.out.mono ?_); rintro e w1 ⟨A, rfl, H1⟩)
  clear hq1 hq2
  go_loopw [4] (fun i wr => ∃ m : Nat, m ≤ len ∧ i = .int .i64 m ∧ Hid (IsRef wr w.heap.size A (St.fromB zs n m) ∧ Below w.heap.size w wr)) (fun i _ => len - (intOf i).toNat)
  case atStart => exact ⟨0, by omega, rfl, Lib.hid ⟨by rw [St.fromB_zero]; exact H1.out.1, H1.out.2⟩⟩
  case round =>
    obtain ⟨m, hm, rfl, HO⟩ := hrel
    by_cases hmn : m < len
    · have hmi : (m : Int) < (len : Int) := by omega
      have hlen : len ≤ 262144 := by rw [HLN.out]; omega
      obtain ⟨ad, rfl, hadb, hcell0⟩ := HR.out m (by rw [HL.out]; exact hmn)
      obtain ⟨b, hb, eb, e1, e2, e3⟩ := fromB_step zs n m (by rw [HL.out]; exact hmn) HZ.out
      rw [eb] at hcell0
      have hcell := (HO.out.2.cell (p := ad.add m) (by rw [add_block]; omega)).trans hcell0
      obtain ⟨l, hl⟩ : ∃ l, m / 64 = l := ⟨_, rfl⟩
      obtain ⟨r, hr⟩ : ∃ r, m % 64 = r := ⟨_, rfl⟩
      obtain ⟨j, hj⟩ : ∃ j, r / 8 = j := ⟨_, rfl⟩
      obtain ⟨s, hs⟩ : ∃ s, m % 8 = s := ⟨_, rfl⟩
      have hx : m / 8 = 8 * l + j := by omega
      rw [hx] at e1 e2 e3
      rw [hs] at e1 e2
      obtain ⟨hs1, hs2, hs3⟩ := shl_byte b s hb (by omega)
      obtain ⟨s8, hs8⟩ : ∃ s8, 8 * s = s8 := ⟨_, rfl⟩
      rw [hs8] at hs1
      obtain ⟨y, hy⟩ : ∃ y, b * 256 ^ s = y := ⟨_, rfl⟩
      rw [hy] at hs1 hs2 e2
      have hbig : wordOf (zs.take (m + 1)) (8 * l + j) < 18446744073709551616 := wordOf_lt _ _ fun z hz => HZ.out z (List.mem_of_mem_take hz)
      obtain ⟨v', hv'⟩ : ∃ v', wordOf (zs.take (m + 1)) (8 * l + j) = v' := ⟨_, rfl⟩
      obtain ⟨v, hv⟩ : ∃ v, wordOf (zs.take m) (8 * l + j) = v := ⟨_, rfl⟩
      have hln2 : l < n := by have := HLN.out; omega
      have HBL : Hid (Blk wr.drew A.lb 85 (n * 10) (rlinesG A (St.fromB zs n m))) := Lib.hid HO.out.1.lines.drew
      have HS : Hid (IsRef (wr.setCell ⟨A.lb, l * 10 + j, none⟩ (.int .u64 (v' : Int))).drew w.heap.size A (St.fromB zs n (m + 1)) ∧ Below w.heap.size w (wr.setCell ⟨A.lb, l * 10 + j, none⟩ (.int .u64 (v' : Int))).drew) := Lib.hid (by
        have hI := HO.out.1
        have hO : Only (fun b => b = A.lb) wr (wr.setCell ⟨A.lb, l * 10 + j, none⟩ (.int .u64 (v' : Int))).drew := ((Only.refl (fun b => b = A.lb) wr).set ⟨A.lb, l * 10 + j, none⟩ _ (.inl rfl)).drew
        refine ⟨{ dev := (hO.blk hI.dev (fun e => hI.dl e)).ext fun o _ => rfl, lines := ?_, hist := fun i hi => ⟨(hI.hist i hi).1.only hO fun g hg e => (hI.hist i hi).2.2 (by rw [hg, e]), (hI.hist i hi).2⟩, notes := fun t ht => ⟨(hI.notes t ht).1.only hO fun g hg e => (hI.notes t ht).2.2 (by rw [hg, e]), (hI.notes t ht).2⟩, dl := hI.dl, bd := hI.bd, bl := hI.bl }, HO.out.2.trans (hO.below HO.out.2.size (fun b hb => by rw [hb]; exact hI.bl))⟩
        exact ((hI.lines.set (l * 10 + j) (.int .u64 (v' : Int))).drew).ext fun o _ => rfrom_lines A zs n m l j v' hl (by rw [hr]; exact hj) hv' e3 o)
      have c0 : wr.cell? ⟨A.d, 0, none⟩ = some (.slice (some ⟨A.lb, 0, none⟩) n n) := RB.c0 HO.out.1.dev
      have cv : wr.cell? ⟨A.lb, l * 10 + j, none⟩ = some (.int .u64 (v : Int)) := by
        rw [HO.out.1.lines.cell (o := l * 10 + j) (by show l * 10 + j < n * 10; omega)]
        unfold rlinesG wordG
        rw [if_pos (by omega)]
        show some (Value.int .u64 (wordOf (zs.take m) (8 * ((l * 10 + j) / 10) + (l * 10 + j) % 10) : Int)) = _
        rw [show 8 * ((l * 10 + j) / 10) + (l * 10 + j) % 10 = 8 * l + j by omega, hv]
      have cf : wr.frozen? ⟨A.lb, l * 10 + j, none⟩ = false := HO.out.1.lines.frozen _
      have q1 : (m : Int) / 64 = (l : Int) := by omega
      have q2 : (m : Int).tdiv 64 = (l : Int) := by rw [Int.tdiv_eq_ediv_of_nonneg (by omega)]; exact q1
      have q3 : (m : Int) % 64 = (r : Int) := by omega
      have q4 : (m : Int).tmod 64 = (r : Int) := by rw [Int.tmod_eq_emod_of_nonneg (by omega)]; exact q3
      have q5 : (r : Int) / 8 = (j : Int) := by omega
      have q6 : (r : Int).tdiv 8 = (j : Int) := by rw [Int.tdiv_eq_ediv_of_nonneg (by omega)]; exact q5
      have q7 : (m : Int) % 8 = (s : Int) := by omega
      have q8 : (m : Int).tmod 8 = (s : Int) := by rw [Int.tmod_eq_emod_of_nonneg (by omega)]; exact q7
      have q9 : IntKind.i64.wrap ((s : Int) * 8) = (s8 : Int) := by rw [IntWalk.i64_in _ (by omega)]; omega
      have hyl : y < 18446744073709551616 := by omega
      have hadd : IntKind.u64.wrap ((v : Int) + (y : Int)) = (v' : Int) := by rw [IntKind.wrap_u64]; omega
      have hl0 : (0 : Int) ≤ (l : Int) := by omega
      have hj0 : (0 : Int) ≤ (j : Int) := by omega
      have hli : (l : Int) < (n : Int) := by omega
      have hj8 : (j : Int) < 8 := by omega
      have hs80 : s8 ≤ 56 := by omega
      have hwl : IntKind.i64.wrap (l : Int) = (l : Int) := IntWalk.i64_in _ (by omega)
      have hwj : IntKind.i64.wrap (j : Int) = (j : Int) := IntWalk.i64_in _ (by omega)
      have hwm : IntKind.i64.wrap (m : Int) = (m : Int) := IntWalk.i64_in _ (by omega)
      have hm0 : (0 : Int) ≤ (m : Int) := by omega
      clear e1 e2 e3 hl hr hj hs hx hs2 hs3 hs8 hy hv hv' eb hcell0 hbig
      go_upto_region 6 with (fail)
      go_still_tail 15, (by kernel_rfl)
      repeat still_step
      try refine wpStill_nil ?_
      change wpList _ _ _ _ _ wr.drew
      clear c0 hcell q1 q2 q3 q4 q5 q6 q7 q8 q9
      go_wp2
      go_roundw
      case rel => exact ⟨m + 1, by omega, by go_num, HS⟩
      case measure => simp [intOf]; omega
    · have hmn2 : m = len := by omega
      have HF : Hid (IsRef wr w.heap.size A (St.fromK zs n n)) := Lib.hid (by
        have := HO.out.1
        rw [hmn2, HLN.out, St.from_same zs n (by rw [HL.out]; exact HLN.out)] at this
        exact this)
      subst hmn2
      go_wp2
      go_ret
      exact ⟨A, rfl, Lib.hid ⟨HF.out, HO.out.2⟩⟩
end Go.Proofs.Ytbonponclcehiaa.Dev
/-
  Crash, the reference's Image, the law's short.
-/
namespace Go.Proofs.Ytbonponclcehiaa.Dev
open Go.ChangeShapes Go.WideShapes Go.ChangeAt Go.RowKit Go.Proofs.Ytbonponclcehiaa.Mem Go.Proofs.Ytbonponclcehiaa.Args Go.Proofs.Ytbonponclcehiaa.Own Go.Proofs.Ytbonponclcehiaa.PackMath
theorem short_any (w : World) (A : Option Addr) (n c B : Nat) (zs : List Int) (hl : zs.length = n) (hnc : n ≤ c) (hc : c ≤ maxLen) (hr : IntsAt .u8 w B A zs) :
    Calls Try.prog 13 #[.slice A n c, .int .i64 20] w fun q w' => q = .returned (.slice A (min n 20) c) ∧ w' = w := by
  have hcl : c ≤ 9223372036854775807 := by unfold maxLen at hc; omega
  by_cases h : 20 < n
  · have hi : (20 : Int) < (n : Int) := by omega
    obtain ⟨ad, rfl, _, _⟩ := hr 0 (by omega)
    have hm : min n 20 = 20 := by omega
    have hci : (20 : Int) ≤ (c : Int) := by omega
    rw [hm]
    clear hr hm
    go_enter Try.func13, Try.ntmps13
    go_wp2
    go_ret
    exact ⟨rfl, rfl⟩
  · have hi : ¬ (20 : Int) < (n : Int) := by omega
    have hm : min n 20 = n := by omega
    rw [hm]
    clear hr hm
    go_enter Try.func13, Try.ntmps13
    go_wp2
    go_ret
    exact ⟨rfl, rfl⟩
theorem crash_any (w : World) (base M : Nat) (A : Adr) (S : St) (C : Option Addr) (m cap B : Nat) (ch : List Int) (h : IsDev w base A S) (hS : S.Ok M) (hM : M ≤ 1000000) (hl : ch.length = m) (hmm : m ≤ 140737488351232) (hr : IntsAt .u8 w B C ch) (hB : B ≤ w.heap.size) (hw : ∀ z ∈ ch, 0 ≤ z ∧ z ≤ 255) :
    Calls Try.prog 34 #[.pointer (some ⟨A.d, 0, none⟩), .slice C m cap] w fun e w' => ∃ A2 : Adr, e = .returned (.pointer (some ⟨A2.d, 0, none⟩)) ∧ Hid (IsDev w' w.heap.size A2 (St.fromK (content S (pickOf S ch) S.n) S.n S.n) ∧ Below w.heap.size w w') := by
  have HI := Lib.hid (image_any w base M A S C m cap B ch h hS hM hl hmm hr hB hw)
  have hcr := content_range S hS (pickOf S ch) S.n
  have hcl : (content S (pickOf S ch) S.n).length = 64 * S.n := content_len _ _ _
  have HF : Hid (∀ (w1 : World) (D : Option Addr) (c : Nat), w.heap.size ≤ w1.heap.size → 64 * S.n ≤ c → c ≤ maxLen → IntsAt .u8 w1 w1.heap.size D (content S (pickOf S ch) S.n) → Calls Try.prog 18 #[.slice D (64 * S.n) c] w1 fun e w' => ∃ A : Adr, e = .returned (.tuple #[.pointer (some ⟨A.d, 0, none⟩), .int .i64 0]) ∧ Hid (IsDev w' w1.heap.size A (St.fromK (content S (pickOf S ch) S.n) S.n S.n) ∧ Below w1.heap.size w1 w')) := Lib.hid fun w1 D c h1 h2 h3 h4 =>
    dfrom_any w1 D (64 * S.n) c w1.heap.size S.n _ hcl rfl hS.n0 hS.n1 h2 h3 h4 (Nat.le_refl _) hcr
  obtain ⟨n, hn⟩ : ∃ n, S.n = n := ⟨_, rfl⟩
  rw [hn] at HI HF hcl ⊢
  obtain ⟨bs, hbs⟩ : ∃ bs, content S (pickOf S ch) n = bs := ⟨_, rfl⟩
  rw [hbs] at HI HF hcl ⊢
  have HCL := Lib.hid hcl
  clear h hS hl hr hw hcr hn hbs hcl
  obtain ⟨z, hz⟩ : ∃ z, 64 * n = z := ⟨_, rfl⟩
  rw [hz] at HF HCL
  clear hz
  go_enter Try.func34, Try.ntmps34
  go_wp2_with (first
    | (go_at_call 33; go_must (refine HI.out.mono ?_); rintro e w1 ⟨v, rfl, H1⟩; obtain ⟨D, c, hv, hlc, hcm, _, hia⟩ := H1.out.1.form; rw [HCL.out] at hv hlc; subst hv; have HF1 := Lib.hid (HF.out w1 D c H1.out.2.size hlc hcm hia); clear hlc hcm hia)
    | (go_at_call 18; go_must (refine HF1.out.mono ?_); rintro e w2 ⟨A2, rfl, H2⟩))
  go_ret
  exact ⟨A2, rfl, Lib.hid ⟨(by
    have h3 := H2.out.1
    exact { h3 with
      hist := fun i hi => (h3.hist i hi).mono H1.out.2.size
      maps := fun t ht => by
        rcases h3.maps t ht with h | ⟨b, h4, h5, h6⟩
        · exact .inl h
        · exact .inr ⟨b, h4, Nat.le_trans H1.out.2.size h5, h6⟩
      bd := Nat.le_trans H1.out.2.size h3.bd
      bl := Nat.le_trans H1.out.2.size h3.bl }), H1.out.2.trans (H2.out.2.mono H1.out.2.size)⟩⟩
/-- The reference's digits of a choice. -/
def picks (S : St) (ch : List Int) (dl : List Nat) (k : Nat) : List Nat := (List.range k).map fun i => if 0 < ch.length then (ch.getD (i % ch.length) 0).toNat % ((S.hist (dl.getD i 0)).length + 1) else 0
theorem picks_len (S : St) (ch : List Int) (dl : List Nat) (k : Nat) : (picks S ch dl k).length = k := by simp [picks]
theorem picks_succ (S : St) (ch : List Int) (dl : List Nat) (k : Nat) : picks S ch dl (k + 1) = picks S ch dl k ++ [if 0 < ch.length then (ch.getD (k % ch.length) 0).toNat % ((S.hist (dl.getD k 0)).length + 1) else 0] := by
  simp [picks, List.range_succ]
theorem kpick_picks {S : St} {M : Nat} (hS : S.Ok M) (ch : List Int) (i : Nat) : kpick S (picks S ch (dirtyTo S S.n) (dirtyTo S S.n).length) i = pickOf S ch i := by
  unfold kpick pickOf
  by_cases h0 : 0 < (S.hist i).length
  · have hi : i < S.n := by
      by_cases hi : i < S.n
      · exact hi
      · have := hist_out hS (i := i) (by omega); omega
    have hd := dirtyTo_at S i h0 S.n hi
    have hlt := (List.getElem?_eq_some_iff.1 hd).1
    rw [if_pos h0]
    have e : (picks S ch (dirtyTo S S.n) (dirtyTo S S.n).length).getD (dirtyTo S i).length 0 = if 0 < ch.length then (ch.getD ((dirtyTo S i).length % ch.length) 0).toNat % ((S.hist i).length + 1) else 0 := by
      simp [picks, List.getD, List.getElem?_map, List.getElem?_range hlt, hd]
    rw [e]
    by_cases hc : 0 < ch.length
    · rw [if_pos hc, if_pos ⟨h0, hc⟩]
    · rw [if_neg hc, if_neg (fun h => hc h.2)]
  · rw [if_neg h0, if_neg (fun h => h0 h.1)]
set_option maxRecDepth 100000 in
set_option maxHeartbeats 1000000 in
theorem rimage_any (w : World) (base M : Nat) (A : RAdr) (S : St) (C : Option Addr) (m cap B : Nat) (ch : List Int) (h : IsRef w base A S) (hS : S.Ok M) (hM : M ≤ 1000000) (hl : ch.length = m) (hmm : m ≤ 140737488351232) (hr : IntsAt .u8 w B C ch) (hB : B ≤ w.heap.size) (hw : ∀ z ∈ ch, 0 ≤ z ∧ z ≤ 255) :
    Calls Try.prog 42 #[.pointer (some ⟨A.d, 0, none⟩), .slice C m cap] w fun e w' => ∃ v', e = .returned v' ∧ Hid (OwnInts .u8 5 w' w.heap.size v' (content S (pickOf S ch) S.n) ∧ Below w.heap.size w w') := by
  obtain ⟨i0, hi, hz0, hz1, hz2⟩ := info_parts infoInt
  have HI := Lib.hid hi
  have HZ0 := Lib.hid hz0
  have HZ1 := Lib.hid hz1
  have HZ2 := Lib.hid hz2
  have HD := Lib.hid h
  have HSS := Lib.hid hS
  have HLE := Lib.hid hl
  have HRR := Lib.hid hr
  have HWW := Lib.hid hw
  have HKW := Lib.hid (funext (kpick_picks hS ch) : kpick S (picks S ch (dirtyTo S S.n) (dirtyTo S S.n).length) = pickOf S ch)
  obtain ⟨dl, hdl⟩ : ∃ dl, dirtyTo S S.n = dl := ⟨_, rfl⟩
  obtain ⟨nd, hm⟩ : ∃ nd, dl.length = nd := ⟨_, rfl⟩
  have hmn : nd ≤ 4096 := by have := dirtyTo_len S S.n; have := hS.n1; rw [← hm, ← hdl]; omega
  have HDM := Lib.hid hm
  have HLT : Hid (∀ i ∈ dl, i < S.n) := Lib.hid (by rw [← hdl]; exact dirtyTo_lt S S.n)
  rw [hdl, hm] at HKW
  have HDR : Hid (∀ w1, Below w.heap.size w w1 → Calls Try.prog 55 #[.pointer (some ⟨A.d, 0, none⟩)] w1 fun e w' => ∃ D c, e = .returned (.slice D nd c) ∧ Hid (OwnInts .i64 3 w' w1.heap.size (.slice D nd c) (ints dl) ∧ Below w1.heap.size w1 w')) := Lib.hid fun w1 hb => by
    refine (rdirty_any w1 base M A S (h.below hb (Nat.le_refl _)) hS).mono ?_
    rintro e w' ⟨v, rfl, H⟩
    obtain ⟨D, c, e1, _⟩ := H.out.1.form
    rw [ints_len, hdl, hm] at e1
    subst e1
    exact ⟨D, c, rfl, by rw [← hdl]; exact H⟩
  obtain ⟨n, hn⟩ : ∃ n, S.n = n := ⟨_, rfl⟩
  have HN := Lib.hid hn
  clear hi hz0 hz1 hz2 h hS hn hdl hm hl hr hw
  go_enter Try.func42, Try.ntmps42
  go_wp2_with (go_at_call 55; refine (HDR.out _ ((Below.refl _ _).alloc (Nat.le_refl _) _)).mono ?_; rintro e w1 ⟨D, c, rfl, H1⟩)
  have HS1 : Hid (w.heap.size + 1 ≤ w1.heap.size) := Lib.hid (by have := H1.out.2.size; simpa using this)
  go_loopw [5, 13] (fun v i wr => ∃ k : Nat, k ≤ nd ∧ i = .int .i64 k ∧ Hid (OwnInts .i64 3 wr w.heap.size v (ints (picks S ch dl k)) ∧ Below w.heap.size w wr ∧ Only (fun b => b = w.heap.size ∨ w1.heap.size ≤ b) w1 wr ∧ ∀ b, v.ownBlock = some b → b = w.heap.size ∨ w1.heap.size ≤ b)) (fun _ i _ => nd - (intOf i).toNat)
  case atStart =>
    refine ⟨0, by omega, rfl, Lib.hid ⟨?_, ?_, Only.refl _ _, fun b hb => .inl (Option.some.inj hb).symm⟩⟩
    · have := (OwnInts.empty .i64 3 w (Nat.le_refl _)).below H1.out.2
      simpa [picks, ints] using this
    · exact ((Below.refl _ _).alloc (Nat.le_refl _) _).trans (H1.out.2.mono (by simp))
  case round =>
    obtain ⟨k, hk, rfl, HR⟩ := hrel
    by_cases hlt : k < nd
    · have hkl : (k : Int) < (nd : Int) := by omega
      have hkd : k < dl.length := by rw [HDM.out]; exact hlt
      have I1 := HD.out.below HR.out.2.1 (Nat.le_refl _)
      have hsz : (w.alloc (.cells #[] 3)).heap.size = w.heap.size + 1 := by simp
      have hoff : ∀ g, (Value.slice D nd c).ownBlock = some g → ¬ (g = w.heap.size ∨ w1.heap.size ≤ g) := fun g hg f => by
        have h1 := H1.out.1.lt g hg
        rw [hsz] at h1
        rcases f with f | f <;> omega
      have OD := OwnInts.only H1.out.1 HR.out.2.2.1 hoff
      obtain ⟨ad, rfl, hcell⟩ := OwnInts.at OD k (by rw [ints_len]; exact hkd)
      obtain ⟨x, hx⟩ : ∃ x, dl[k] = x := ⟨_, rfl⟩
      have hcell2 : wr.cell? (ad.add k) = some (.int .i64 (x : Int)) := by rw [hcell, ← hx]; simp [ints]
      have hxn : x < S.n := by rw [← hx]; exact HLT.out _ (List.getElem_mem hkd)
      obtain ⟨C2, cc, _, q1, q2, _, hh, _, _⟩ := I1.line hxn
      have hxl : x < n := by rw [← HN.out]; exact hxn
      have hxi : (x : Int) < (n : Int) := by omega
      have c0 := RB.c0 I1.dev
      rw [HN.out] at c0
      have hlb := I1.lines.lt
      have hn4 : n ≤ 4096 := by rw [← HN.out]; exact HSS.out.n1
      have hsum := HSS.out.sum x
      have hgx : dl.getD k 0 = x := by simp [List.getD, hkd, hx]
      have HTK := Lib.hid (picks_succ S ch dl k)
      rw [hgx] at HTK
      generalize hL : (S.hist x).length = L at *
      have hLM : L ≤ 1000000 := by omega
      have HLEN : Hid ((ints (picks S ch dl k)).length ≤ 4096) := Lib.hid (by rw [ints_len, picks_len]; omega)
      clear I1 OD hcell hx hkd hL hsum hsz hoff hgx
      by_cases h1 : 0 < m
      · have h1l : 0 < ch.length := by rw [HLE.out]; exact h1
        obtain ⟨xx, hxx⟩ : ∃ xx, k % m = xx := ⟨_, rfl⟩
        have hxm : xx < m := by rw [← hxx]; exact Nat.mod_lt _ h1
        obtain ⟨cd, rfl, hcdb, hcl0⟩ := HRR.out xx (by rw [HLE.out]; exact hxm)
        have hcl := (HR.out.2.1.cell (p := cd.add xx) (by rw [add_block]; omega)).trans hcl0
        have hbr := HWW.out (ch.getD xx 0) (by rw [getD_at (by rw [HLE.out]; exact hxm)]; exact List.getElem_mem _)
        obtain ⟨b, hb⟩ : ∃ b : Nat, ch.getD xx 0 = (b : Int) := ⟨(ch.getD xx 0).toNat, by omega⟩
        rw [hb] at hcl hbr
        obtain ⟨pk, hpk⟩ : ∃ pk, b % (L + 1) = pk := ⟨_, rfl⟩
        have hpkb : pk ≤ L := by have := Nat.mod_lt b (show 0 < L + 1 by omega); omega
        rw [if_pos h1l, HLE.out, hxx, hb, show ((b : Int)).toNat = b by simp, hpk] at HTK
        have hb255 : b ≤ 255 := by omega
        have hwb : IntKind.i64.wrap (b : Int) = (b : Int) := IntWalk.i64_in _ ⟨by omega, by omega⟩
        have hmd : (k : Int) % (m : Int) = (xx : Int) := by rw [← hxx]; simp
        have htm : (k : Int).tmod (m : Int) = (xx : Int) := by rw [Int.tmod_eq_emod_of_nonneg (by omega)]; exact hmd
        have hL1 : IntKind.i64.wrap ((L : Int) + 1) = (L : Int) + 1 := IntWalk.i64_in _ ⟨by omega, by omega⟩
        have hmp : (b : Int) % ((L : Int) + 1) = (pk : Int) := by rw [← hpk]; simp
        have htp : (b : Int).tmod ((L : Int) + 1) = (pk : Int) := by rw [Int.tmod_eq_emod_of_nonneg (by omega)]; exact hmp
        have hx0 : (0 : Int) ≤ (xx : Int) := by omega
        have hxmi : (xx : Int) < (m : Int) := by omega
        have hwx : IntKind.i64.wrap (xx : Int) = (xx : Int) := IntWalk.i64_in _ ⟨by omega, by omega⟩
        have hwx2 : IntKind.i64.wrap (x : Int) = (x : Int) := IntWalk.i64_in _ ⟨by omega, by omega⟩
        have hx00 : (0 : Int) ≤ (x : Int) := by omega
        have hpk0 : (0 : Int) ≤ (pk : Int) := by omega
        have hwp : IntKind.i64.wrap (pk : Int) = (pk : Int) := IntWalk.i64_in _ ⟨by omega, by omega⟩
        have h1i : (0 : Int) < (m : Int) := by omega
        have hL0 : (0 : Int) ≤ (L : Int) + 1 := by omega
        have hm0 : ((m : Int) == 0) = false := by simp; omega
        have hLz : ((L : Int) + 1 == 0) = false := by simp; omega
        clear hxx hb hpk hbr hcl0 h1l
        go_wp2
        go_quiet (fail)
        clear hwb hmd htm hL1 hmp htp hx0 hwx hwx2 hx00 hL0 hm0 hLz hcl hcell2 hh c0
        go_wp2_with (at_builtin; go_must (refine wpList_app (by simp [Region.wanted, yielded]) (.tmp 40) (.tmp 42) 45 rfl (v := u5) (B := (wr.drewN nq).heap.size + 1) (c := 1) (A := some ⟨(wr.drewN nq).heap.size, 0, none⟩) (zs := [(pk : Int)]) Try.underlying45 HI.out HZ0.out HZ1.out HZ2.out rfl rfl ((show OwnInts .i64 3 (wr.drewN nq) w.heap.size u5 (ints (picks S ch dl k)) from HR.out.1).alloc _) rfl (IntsAt.new .i64 (wr.drewN nq) 3 (0, 0) _) rfl (by have := HLEN.out; unfold maxLen; omega) (by have := HLEN.out; omega) (Nat.le_trans HR.out.2.1.size (by simp)) ?_); intro v2 w2 ho2 hg2 ha2; have HQ := Lib.hid (And.intro ho2 (And.intro hg2 ha2)); clear ho2 hg2 ha2)
        go_roundw
        case rel =>
          have HRQ : OwnInts .i64 3 (wr.drewN nq) w.heap.size u5 (ints (picks S ch dl k)) := HR.out.1
          have HBQQ : Below w.heap.size w (wr.drewN nq) := HR.out.2.1.trans (below_drewN _ _ _)
          have HOQQ : Only (fun b => b = w.heap.size ∨ w1.heap.size ≤ b) w1 (wr.drewN nq) := HR.out.2.2.1.drewN _
          refine ⟨k + 1, by omega, by go_num, Lib.hid ⟨by rw [HTK.out, ints_snoc]; exact HQ.out.1, ?_, ?_, ?_⟩⟩
          · exact HBQQ.trans (((Below.refl w.heap.size (wr.drewN nq)).alloc HBQQ.size _).trans ((HRQ.alloc _).grownBelow HQ.out.2.1 (Nat.le_trans HBQQ.size (by simp))))
          · refine (HOQQ.alloc _).trans (Only.ofGrown HQ.out.2.1 fun b hb => .inl (HR.out.2.2.2 b hb))
          · intro b hb
            rcases HQ.out.2.2 with h1 | h1
            · rw [h1] at hb; exact HR.out.2.2.2 b hb
            · rw [h1] at hb
              have h2 := HOQQ.size
              have h3 : ((wr.drewN nq).alloc (.cells #[.int .i64 (pk : Int)] 3)).heap.size = (wr.drewN nq).heap.size + 1 := by simp
              have := Option.some.inj hb
              omega
        case measure => simp [intOf]; omega
      · have hm0 : m = 0 := by omega
        have h1l : ¬ 0 < ch.length := by rw [HLE.out]; exact h1
        rw [if_neg h1l] at HTK
        have h1i : ¬ (0 : Int) < (m : Int) := by omega
        clear hm0 h1l
        have HTK2 : Hid (picks S ch dl (k + 1) = picks S ch dl k ++ [0]) := HTK
        go_wp2_with (at_builtin; go_must (refine wpList_app (by simp [Region.wanted, yielded]) (.tmp 40) (.tmp 42) 45 rfl (v := u5) (B := (wr).heap.size + 1) (c := 1) (A := some ⟨(wr).heap.size, 0, none⟩) (zs := [0]) Try.underlying45 HI.out HZ0.out HZ1.out HZ2.out rfl rfl ((show OwnInts .i64 3 (wr) w.heap.size u5 (ints (picks S ch dl k)) from HR.out.1).alloc _) rfl (IntsAt.new .i64 (wr) 3 (0, 0) _) rfl (by have := HLEN.out; unfold maxLen; omega) (by have := HLEN.out; omega) (Nat.le_trans HR.out.2.1.size (by simp)) ?_); intro v2 w2 ho2 hg2 ha2; have HQ := Lib.hid (And.intro ho2 (And.intro hg2 ha2)); clear ho2 hg2 ha2)
        go_roundw
        case rel =>
          have HRQ : OwnInts .i64 3 (wr) w.heap.size u5 (ints (picks S ch dl k)) := HR.out.1
          have HBQQ : Below w.heap.size w (wr) := HR.out.2.1
          have HOQQ : Only (fun b => b = w.heap.size ∨ w1.heap.size ≤ b) w1 (wr) := HR.out.2.2.1
          refine ⟨k + 1, by omega, by go_num, Lib.hid ⟨by rw [HTK2.out, ints_snoc]; exact HQ.out.1, ?_, ?_, ?_⟩⟩
          · exact HBQQ.trans (((Below.refl w.heap.size (wr)).alloc HBQQ.size _).trans ((HRQ.alloc _).grownBelow HQ.out.2.1 (Nat.le_trans HBQQ.size (by simp))))
          · refine (HOQQ.alloc _).trans (Only.ofGrown HQ.out.2.1 fun b hb => .inl (HR.out.2.2.2 b hb))
          · intro b hb
            rcases HQ.out.2.2 with h1 | h1
            · rw [h1] at hb; exact HR.out.2.2.2 b hb
            · rw [h1] at hb
              have h2 := HOQQ.size
              have h3 : ((wr).alloc (.cells #[.int .i64 0] 3)).heap.size = (wr).heap.size + 1 := by simp
              have := Option.some.inj hb
              omega
        case measure => simp [intOf]; omega
    · have hkn : k = nd := by omega
      have hkl : ¬ (k : Int) < (nd : Int) := by omega
      subst hkn
      have ho := HR.out.1
      have hll : (picks S ch dl k).length = k := picks_len _ _ _ _
      obtain ⟨K, cc, e1, _, _, _, hi1⟩ := ho.form
      rw [ints_len, hll] at e1
      subst e1
      have HC := Lib.hid (rcontent_any wr base M A S K k cc wr.heap.size (picks S ch dl k) (HD.out.below HR.out.2.1 (Nat.le_refl _)) HSS.out hM hll hmn hi1 (Nat.le_refl _) (fun i => by rw [HKW.out]; exact pickOf_le _ _ _))
      rw [HKW.out, HN.out] at HC
      clear ho hi1 hll
      go_wp2_with (go_at_call 54; refine HC.out.mono ?_; rintro e w2 ⟨v2, rfl, H2⟩)
      go_ret
      exact ⟨v2, rfl, Lib.hid ⟨by rw [HN.out]; exact own_mono H2.out.1 HR.out.2.1.size, HR.out.2.1.trans (H2.out.2.mono HR.out.2.1.size)⟩⟩
end Go.Proofs.Ytbonponclcehiaa.Dev
/-
  DeviceImages: the walk.
-/
namespace Go.Proofs.Ytbonponclcehiaa.Dev
open Go.ChangeShapes Go.WideShapes Go.ChangeAt Go.RowKit Go.Proofs.Ytbonponclcehiaa.Mem Go.Proofs.Ytbonponclcehiaa.Args Go.Proofs.Ytbonponclcehiaa.Own Go.Proofs.Ytbonponclcehiaa.PackMath
theorem IsDev.mono {w : World} {base b : Nat} {A : Adr} {S : St} (h : IsDev w base A S) (hb : b ≤ base) : IsDev w b A S :=
  { h with
    hist := fun i hi => (h.hist i hi).mono hb
    maps := fun t ht => by
      rcases h.maps t ht with h1 | ⟨b', h4, h5, h6⟩
      · exact .inl h1
      · exact .inr ⟨b', h4, Nat.le_trans hb h5, h6⟩
    bd := Nat.le_trans hb h.bd
    bl := Nat.le_trans hb h.bl }
/-- A device and a reference in one state. -/
def Twin (w : World) (x y : Nat) : Prop := ∃ (A : Adr) (R : RAdr) (M : Nat) (S : St), A.d = x ∧ R.d = y ∧ IsDev w 0 A S ∧ IsRef w 0 R S ∧ S.Ok M ∧ M ≤ 1000000
theorem Twin.below {w w' : World} {x y : Nat} (h : Twin w x y) (hb : Below w.heap.size w w') : Twin w' x y := by
  obtain ⟨A, R, M, S, h1, h2, h3, h4, h5⟩ := h
  exact ⟨A, R, M, S, h1, h2, h3.below hb (Nat.le_refl _), h4.below hb (Nat.le_refl _), h5⟩
theorem BothF.twin {w0 w : World} {d r M : Nat} {S : St} (h : BothF w0 w d r S S) (hS : S.Ok M) (hM : M ≤ 1000000) : Twin w d r := by
  obtain ⟨A, R, h1, h2, hd, hr, hb, hk⟩ := h
  exact ⟨A, R, M, S, h1, h2, hd.mono (Nat.zero_le _), hr.mono (Nat.zero_le _), hS, hM⟩
theorem same_twin {w : World} {x y : Nat} (h : Twin w x y) :
    Calls Try.prog 15 #[.pointer (some ⟨x, 0, none⟩), .pointer (some ⟨y, 0, none⟩)] w fun q w' => q = .returned (.bool true) ∧ Below w.heap.size w w' := by
  obtain ⟨A, R, M, S, h1, h2, h3, h4, h5, h6⟩ := h
  subst h1 h2
  refine (same_any w 0 M A R S h3 h4 h5 h6).mono ?_
  rintro q w' ⟨e, H⟩
  exact ⟨e, H.out⟩
/-- The choice that a law hands on: at most 20 bytes. -/
theorem short_ints {W : World} {A : Option Addr} {n : Nat} {z : List Int} (hl : z.length = n) (hr : IntsAt .u8 W W.heap.size A z) (hw : ∀ x ∈ z, (Lit.int .u8 x).wf = true) :
    ∃ ch : List Int, ch.length = min n 20 ∧ IntsAt .u8 W W.heap.size A ch ∧ ∀ x ∈ ch, 0 ≤ x ∧ x ≤ 255 := by
  refine ⟨z.take (min n 20), by rw [List.length_take]; omega, hr.take _, fun x hx => ?_⟩
  have := hw x (List.mem_of_mem_take hx)
  simpa [Lit.wf, IntKind.min, IntKind.max, IntKind.bits, IntKind.signed] using this
section
variable {w0 w : World} {d r M m cap B : Nat} {S : St} {C : Option Addr} {ch : List Int}
theorem bf_rimage (hP : BothF w0 w d r S S) (hS : S.Ok M) (hM : M ≤ 1000000) (hl : ch.length = m) (hmm : m ≤ 140737488351232) (hc : IntsAt .u8 w B C ch) (hB : B ≤ w.heap.size) (hw : ∀ z ∈ ch, 0 ≤ z ∧ z ≤ 255) :
    Calls Try.prog 42 #[.pointer (some ⟨r, 0, none⟩), .slice C m cap] w fun e w' => ∃ D c, e = .returned (.slice D (64 * S.n) c) ∧ Hid (Below w.heap.size w w' ∧ 64 * S.n ≤ c ∧ c ≤ maxLen ∧ IntsAt .u8 w' w'.heap.size D (content S (pickOf S ch) S.n)) := by
  obtain ⟨A, R, h1, h2, hd, hr, hb, hk⟩ := hP
  subst h1 h2
  refine (rimage_any w _ M R S C m cap B ch hr hS hM hl hmm hc hB hw).mono ?_
  rintro e w' ⟨v, e1, H⟩
  obtain ⟨D, c, e2, h1, h2, _, hi⟩ := H.out.1.form
  subst e2
  rw [content_len] at e1 h1
  exact ⟨D, c, e1, Lib.hid ⟨H.out.2, h1, h2, hi⟩⟩
theorem bf_crash (hP : BothF w0 w d r S S) (hS : S.Ok M) (hM : M ≤ 1000000) (hl : ch.length = m) (hmm : m ≤ 140737488351232) (hc : IntsAt .u8 w B C ch) (hB : B ≤ w.heap.size) (hw : ∀ z ∈ ch, 0 ≤ z ∧ z ≤ 255) :
    Calls Try.prog 34 #[.pointer (some ⟨d, 0, none⟩), .slice C m cap] w fun e w' => ∃ x, e = .returned (.pointer (some ⟨x, 0, none⟩)) ∧ Hid (Below w.heap.size w w' ∧ ∃ A : Adr, A.d = x ∧ IsDev w' 0 A (St.fromK (content S (pickOf S ch) S.n) S.n S.n)) := by
  obtain ⟨A, R, h1, h2, hd, hr, hb, hk⟩ := hP
  subst h1 h2
  refine (crash_any w _ M A S C m cap B ch hd hS hM hl hmm hc hB hw).mono ?_
  rintro e w' ⟨A2, e1, H⟩
  exact ⟨A2.d, e1, Lib.hid ⟨H.out.2, A2, rfl, H.out.1.mono (Nat.zero_le _)⟩⟩
theorem bf_image (hP : BothF w0 w d r S S) (hS : S.Ok M) (hM : M ≤ 1000000) (hl : ch.length = m) (hmm : m ≤ 140737488351232) (hc : IntsAt .u8 w B C ch) (hB : B ≤ w.heap.size) (hw : ∀ z ∈ ch, 0 ≤ z ∧ z ≤ 255) :
    Calls Try.prog 33 #[.pointer (some ⟨d, 0, none⟩), .slice C m cap] w fun e w' => Made w w w' e (64 * S.n) (content S (pickOf S ch) S.n) := by
  refine (bk_image hP C m cap B ch hS hM hl hmm hc hB hw).mono ?_
  rintro e w2 ⟨v, he, H⟩
  have := Made.of (Below.refl _ _) he H.out.1 H.out.2.1
  rw [content_len] at this
  exact this
end
/-- The crashed device and the reference of the same bytes. -/
theorem from_twin (w : World) (D : Option Addr) (c n x B : Nat) (bs : List Int) (hl : bs.length = 64 * n) (h0 : 1 ≤ n) (h1 : n ≤ 4096) (hr : IntsAt .u8 w B D bs) (hB : B ≤ w.heap.size) (hz : ∀ z ∈ bs, 0 ≤ z ∧ z ≤ 255) (hd : ∃ A : Adr, A.d = x ∧ IsDev w 0 A (St.fromK bs n n)) :
    Calls Try.prog 19 #[.slice D (64 * n) c] w fun e w' => ∃ y, e = .returned (.pointer (some ⟨y, 0, none⟩)) ∧ Below w.heap.size w w' ∧ Hid (Twin w' x y) := by
  obtain ⟨A, hA, hdev⟩ := hd
  refine (rfrom_any w D (64 * n) c B n bs hl rfl h0 h1 hr hB hz).mono ?_
  rintro e w' ⟨R, e1, H⟩
  exact ⟨R.d, e1, H.out.2, Lib.hid ⟨A, R, 0, _, hA, rfl, hdev.below H.out.2 (Nat.le_refl _), H.out.1.mono (Nat.zero_le _), St.fromK_ok bs n n hz h0 h1, by omega⟩⟩
end Go.Proofs.Ytbonponclcehiaa.Dev
