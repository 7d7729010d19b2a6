/-
  CONTRACT OF PACKAGE image: Text.
-/
import Derived.Test.YtnhddgmegnehaaaDoorIText
set_option linter.unusedVariables false
set_option linter.unusedSimpArgs false
namespace Go.Proofs.YtnhddgmegnehaaaDoor.Base
open Go.ChangeShapes Go.WideShapes Go.ChangeAt Go.RowKit Go.Sort Go.Lib Go.Proofs.YtnhddgmegnehaaaDoor.Args Go.Proofs.YtnhddgmegnehaaaDoor.Own
/-- the text of the lines below k. -/
def linesT (l : List UInt8) : Nat → List UInt8
  | 0 => []
  | k + 1 => linesT l k ++ (if zeroL (lineL l k) then [] else lineTextL k (lineL l k) ++ [10])
def headT (n : Nat) : List UInt8 := [108, 105, 110, 101, 115, 32] ++ decDigits n ++ [10]
def imageT (l : List UInt8) : List UInt8 := headT (l.length / 64) ++ linesT l (l.length / 64)
theorem linesT_zero {l : List UInt8} {k : Nat} (h : zeroL (lineL l k) = true) : linesT l (k + 1) = linesT l k := by rw [linesT, if_pos h, List.append_nil]
theorem linesT_more {l : List UInt8} {k : Nat} (h : ¬ zeroL (lineL l k) = true) : linesT l (k + 1) = linesT l k ++ (lineTextL k (lineL l k) ++ [10]) := by rw [linesT, if_neg h]
theorem lineTextL_length (n : Nat) (l : List UInt8) (hn : n < 18446744073709551616) (hl : l.length ≤ 64) : (lineTextL n l).length ≤ 157 := by
  unfold lineTextL
  have := dec_len n hn
  have h2 := wordsT_length l (l.length / 8)
  simp [h2]; omega
theorem linesT_length (l : List UInt8) (k : Nat) (hk : k ≤ 1000000) : (linesT l k).length ≤ 158 * k := by
  induction k with
  | zero => simp [linesT]
  | succ k ih =>
    have := ih (by omega)
    have h2 := lineTextL_length k (lineL l k) (by omega) (lineL_length l k)
    rw [linesT]
    split
    · simp; omega
    · simp; omega
theorem lineL_eight (l : List UInt8) (k : Nat) (hk : k < l.length / 64) : (lineL l k).length % 8 = 0 := by
  rw [lineL_in (by omega), List.length_take, List.length_drop]; omega
/-- the box and the builder, on the way. -/
structure TW (w : World) (l acc : List UInt8) (w' : World) : Prop where
  bu : Lib.IsBuilderF 86 5 (w.heap.size + 1) (w.heap.size + 1) (Lib.byteCells acc) w'
  c0 : w'.cell? ⟨w.heap.size, 0, none⟩ = some (str l)
  sz : w.heap.size + 1 ≤ w'.heap.size
  bb : Below w.heap.size w w'
theorem TW.below {w w1 w2 : World} {l acc : List UInt8} (h : TW w l acc w1) (hb : Below w1.heap.size w1 w2) : TW w l acc w2 :=
  ⟨IsBuilderF.below h.bu hb, (hb.cell (by have := h.sz; show w.heap.size < _; omega)).trans h.c0, Nat.le_trans h.sz hb.size, h.bb.trans (hb.mono h.bb.size)⟩
theorem TW.write {w w1 w2 : World} {l acc acc' : List UInt8} (h : TW w l acc w1) (hu : Lib.IsBuilderF 86 5 (w.heap.size + 1) (w.heap.size + 1) (Lib.byteCells acc') w2) (hb : Below (w.heap.size + 1) w1 w2) : TW w l acc' w2 :=
  ⟨hu, (hb.cell (by show w.heap.size < _; omega)).trans h.c0, Nat.le_trans h.sz hb.size, h.bb.trans (hb.mono (by omega))⟩
set_option maxHeartbeats 1600000 in
set_option maxRecDepth 100000 in
theorem text_any (B : Nat) (l : List UInt8) (w : World) (h64 : l.length % 64 = 0) (hl : l.length ≤ 262144) (hB : B ≤ w.heap.size) (hpow : Pow B w) (htz : Tz B w) :
    Calls Tryd.prog 35 #[img l] w fun e w' => e = .returned (str (imageT l)) ∧ Below w.heap.size w w' := by
  have HP := Lib.hid hpow
  have HTZ := Lib.hid htz
  have HLn := Lib.hid (fun w => lines_any l w (by omega))
  have HLi := Lib.hid (fun (k : Nat) w (hk : k ≤ 1000000) => line_any l k w (by omega) (by omega))
  obtain ⟨N, hN⟩ : ∃ N, l.length / 64 = N := ⟨_, rfl⟩
  have hN2 : N ≤ 4096 := by omega
  rw [hN] at HLn
  have HE : Hid (imageT l = headT N ++ linesT l N) := Lib.hid (by unfold imageT; rw [hN])
  have hdl := dec_len N (by omega)
  have HH : Hid (headT N = [108, 105, 110, 101, 115, 32] ++ decDigits N ++ [10]) := Lib.hid rfl
  have hhl : (headT N).length ≤ 30 := by rw [HH.out]; simp; omega
  have HI := Lib.hid (fun w (hb : Pow B w) => itoa_any B N w (by omega) hb)
  have HNL : Hid (l.length / 64 = N) := Lib.hid hN
  generalize decDigits N = d at *
  clear hN hpow htz
  -- the box, the builder
  obtain ⟨wb, hwb⟩ : ∃ wb, w.alloc (.cells #[str l] 25) = wb := ⟨_, rfl⟩
  have hbs : wb.heap.size = w.heap.size + 1 := by rw [← hwb]; simp
  have hbox : wb.cell? ⟨w.heap.size, 0, none⟩ = some (str l) := by rw [← hwb, World.cell?_alloc_new]; rfl
  have hbl : Below w.heap.size w wb := by rw [← hwb]; exact (Below.refl _ _).alloc (Nat.le_refl _) _
  have hB0 := IsBuilderF.of (Lib.fresh_isBuilder 86 5 wb)
  have hL0 : Below wb.heap.size wb (wb.alloc (.cells #[.pointer none, .slice none 0 0] 86)) := (Below.refl _ _).alloc (Nat.le_refl _) _
  have hL1 : Below w.heap.size w (wb.alloc (.cells #[.pointer none, .slice none 0 0] 86)) := hbl.trans (hL0.mono hbl.size)
  rw [hbs] at hB0
  have c0 := (hL0.cell (p := ⟨w.heap.size, 0, none⟩) (by show w.heap.size < _; omega)).trans hbox
  have hsz : w.heap.size + 1 ≤ (wb.alloc (.cells #[.pointer none, .slice none 0 0] 86)).heap.size := by simp; omega
  subst hwb
  obtain ⟨w1, hw1⟩ : ∃ w1, (w.alloc (.cells #[str l] 25)).alloc (.cells #[.pointer none, .slice none 0 0] 86) = w1 := ⟨_, rfl⟩
  rw [hw1] at hB0 hL1 c0 hsz
  have HT1 : Hid (TW w l [] w1) := Lib.hid ⟨hB0, c0, hsz, hL1⟩
  have HW1 := Lib.hid hw1
  have hs0 : (w.alloc (.cells #[str l] 25)).heap.size = w.heap.size + 1 := by simp
  clear hB0 hL0 hL1 hsz hw1 hbs hbl hbox c0
  go_enter Tryd.func35, Tryd.ntmps35
  go_wp2_with (go_at_call 12; fail)
  rw [HW1.out]
  have c0 := HT1.out.c0
  go_wp2_with (first
    | (go_at_call 12; go_must (refine (HLn.out _).mono ?_); rintro e w2 ⟨rfl, hb2⟩; have HT2 := Lib.hid (HT1.out.below hb2); clear hb2)
    | (go_at_call 47; go_must (refine (HI.out _ (HP.out.on (HT2.out.bb.mono hB))).mono ?_); rintro e w3 ⟨rfl, hb3⟩; have HT3 := Lib.hid (HT2.out.below hb3); clear hb3)
    | (go_at_call 46; go_must (refine (write_any (w.heap.size + 1) (w.heap.size + 1) [] (headT N) _ _ (by rw [HH.out, show (⟨#[108, 105, 110, 101, 115, 32]⟩ : ByteArray) = ⟨[108, 105, 110, 101, 115, 32].toArray⟩ from rfl, show (⟨#[10]⟩ : ByteArray) = ⟨[10].toArray⟩ from rfl, ba_app, ba_app]) HT3.out.bu (by simp; omega) HT3.out.sz).mono ?_); rintro e w4 ⟨rfl, hu4, hb4⟩; have HT4 := Lib.hid (HT3.out.write hu4 hb4); clear hu4 hb4; refine Hid.out ?_))
  rw [List.nil_append] at HT4
  have c4 := HT4.out.c0
  clear c0
  refine Lib.hid ?_
  go_wp2_with (go_at_call 12; go_must (refine (HLn.out _).mono ?_); rintro e w5 ⟨rfl, hb5⟩; have HT5 := Lib.hid (HT4.out.below hb5); clear hb5)
  clear c4
  go_loopw [14] (fun vk wr => ∃ k : Nat, k ≤ N ∧ vk = .int .i64 (k : Int) ∧ Hid (TW w l (headT N ++ linesT l k) wr)) (fun vk _ => N - (RowKit.intOf vk).toNat)
  case atStart => exact ⟨0, by omega, rfl, by simpa [linesT] using HT5⟩
  case round =>
    obtain ⟨k, hk, rfl, HT⟩ := hrel
    rename World => wr
    by_cases hlt : k < N
    · have c6 := HT.out.c0
      have hll := lineL_length l k
      have hllen : (linesT l k).length ≤ 158 * k := linesT_length l k (by omega)
      go_wp2_with (go_at_call 40; go_must (refine (HLi.out k _ (by omega)).mono ?_); rintro e w7 ⟨rfl, hb7⟩; have HT7 := Lib.hid (HT.out.below hb7); clear hb7; refine Hid.out ?_)
      have hl8 : Hid ((lineL l k).length % 8 = 0) := Lib.hid (lineL_eight l k (by have := HNL.out; omega))
      have HZc := Lib.hid (fun w => isZero_any (lineL l k) w (by omega))
      by_cases hz : zeroL (lineL l k) = true
      · have HS := Lib.hid (linesT_zero hz)
        rw [hz] at HZc
        clear hz
        refine Lib.hid ?_
        go_wp2_with (go_at_call 48; go_must (refine (HZc.out _).mono ?_); rintro e w8 ⟨rfl, hb8⟩; have HT8 := Lib.hid (HT7.out.below hb8); clear hb8)
        go_roundw
        case rel => exact ⟨k + 1, by omega, by go_num, by rw [HS.out]; exact HT8⟩
        case measure => simp [RowKit.intOf]; omega
      · have HS := Lib.hid (linesT_more hz)
        rw [show zeroL (lineL l k) = false by simpa using hz] at HZc
        have htl := lineTextL_length k (lineL l k) (by omega) hll
        have HLT := Lib.hid (fun w (h1 : B ≤ w.heap.size) (h2 : Pow B w) (h3 : Tz B w) => lineText_any B k (lineL l k) w (by omega) hl8.out (by omega) h1 h2 h3)
        clear hz
        generalize lineTextL k (lineL l k) = lt at *
        refine Lib.hid ?_
        go_wp2_with (first
          | (go_at_call 48; go_must (refine (HZc.out _).mono ?_); rintro e w8 ⟨rfl, hb8⟩; have HT8 := Lib.hid (HT7.out.below hb8); clear hb8)
          | (go_at_call 49; go_must (refine (HLT.out _ (Nat.le_trans hB HT8.out.bb.size) (HP.out.on (HT8.out.bb.mono hB)) (HTZ.out.on (HT8.out.bb.mono hB))).mono ?_); rintro e w9 ⟨rfl, hb9⟩; have HT9 := Lib.hid (HT8.out.below hb9); clear hb9)
          | (go_at_call 46; go_must (refine (write_any (w.heap.size + 1) (w.heap.size + 1) (headT N ++ linesT l k) (lt ++ [10]) _ _ (by rw [show (⟨#[10]⟩ : ByteArray) = ⟨[10].toArray⟩ from rfl, ba_app]) HT9.out.bu (by simp; omega) HT9.out.sz).mono ?_); rintro e wx ⟨rfl, hux, hbx⟩; have HTX := Lib.hid (HT9.out.write hux hbx); clear hux hbx))
        go_roundw
        case rel => exact ⟨k + 1, by omega, by go_num, by rw [HS.out, ← List.append_assoc]; exact HTX⟩
        case measure => simp [RowKit.intOf]; omega
    · have hkn : k = N := by omega
      subst hkn
      have HSt := Lib.hid (Tryd.Builder_String_any_k (w.heap.size + 1) (w.heap.size + 1) (headT k ++ linesT l k) wr HT.out.bu HT.out.sz)
      go_wp2_with (go_at_call 50; go_must (refine HSt.out.mono ?_); rintro e w6 ⟨rfl, -, hb6, -⟩)
      go_ret
      rw [HE.out]
      exact ⟨rfl, HT.out.bb.trans (hb6.mono (by omega))⟩
end Go.Proofs.YtnhddgmegnehaaaDoor.Base
