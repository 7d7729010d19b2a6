/-
  CONTRACTS OF PACKAGE image: isZero, lineText.
-/
import Derived.Test.YtnhddgmegnehaaaDoorINew
set_option linter.unusedVariables false
set_option linter.unusedSimpArgs false
namespace Go.Proofs.YtnhddgmegnehaaaDoor.Base
open Go.ChangeShapes Go.WideShapes Go.ChangeAt Go.RowKit Go.Sort Go.Lib Go.Proofs.YtnhddgmegnehaaaDoor.Args Go.Proofs.YtnhddgmegnehaaaDoor.Own
/-- strings.Builder's WriteString (the shelf's contract, at the numbers that Repeat's own laying has). -/
theorem write_any (B b : Nat) (l m : List UInt8) (s : ByteArray) (w : World) (hm : s = ⟨m.toArray⟩) (h : Lib.IsBuilderF 86 5 B b (Lib.byteCells l) w) (hlen : l.length + m.length ≤ 1000000000) (hBw : B ≤ w.heap.size) :
    Calls Tryd.prog 46 #[.pointer (some ⟨b, 0, none⟩), .string s] w fun e w' => e = .returned (.tuple #[.int .i64 (m.length : Int), .nilIface]) ∧ Lib.IsBuilderF 86 5 B b (Lib.byteCells (l ++ m)) w' ∧ Below B w w' := by
  subst hm
  have hs := str_size m
  refine (Any.Builder_WriteString_k (P := Tryd.prog) (ρ := Tryd.lays105_ren) { Tryd.lays105 with } Tryd.Builder_Extra_105 B b (Lib.byteCells l) ⟨m.toArray⟩ w h (by rw [Lib.byteCells_length, hs]; omega) hBw).mono ?_
  rintro e w' ⟨rfl, h1, h2, -⟩
  rw [hs]
  refine ⟨rfl, .inr ?_, h2⟩
  rw [Lib.byteCells_append]
  exact h1
def zeroL (l : List UInt8) : Bool := l.all (· == 0)
theorem dropWhile_nil (l : List UInt8) (p : UInt8 → Bool) : l.dropWhile p = [] ↔ l.all p = true := by
  induction l with
  | nil => simp
  | cons c l ih =>
    rw [List.dropWhile_cons, List.all_cons]
    by_cases h : p c = true
    · simp [h, ih]
    · simp [h]
/-- the words' text. -/
def wordsT (l : List UInt8) : Nat → List UInt8
  | 0 => []
  | k + 1 => wordsT l k ++ (32 :: hexN 16 (wordN l (8 * k)))
theorem wordsT_length (l : List UInt8) (k : Nat) : (wordsT l k).length = 17 * k := by
  induction k with
  | zero => rfl
  | succ k ih => rw [wordsT, List.length_append, ih, List.length_cons, hexN_length]; omega
def lineTextL (n : Nat) (l : List UInt8) : List UInt8 := decDigits n ++ [58] ++ wordsT l (l.length / 8)
set_option maxHeartbeats 1600000 in
set_option maxRecDepth 100000 in
theorem lineText_any (B n : Nat) (l : List UInt8) (w : World) (hn : n ≤ 1000000) (h8 : l.length % 8 = 0) (hl : l.length ≤ 100000) (hB : B ≤ w.heap.size) (hpow : Pow B w) (htz : Tz B w) :
    Calls Tryd.prog 49 #[.int .i64 (n : Int), str l] w fun e w' => e = .returned (str (lineTextL n l)) ∧ Below w.heap.size w w' := by
  have hs := str_size l
  have HP := Lib.hid hpow
  have HTZ := Lib.hid htz
  have hdl := dec_len n (by omega)
  have HE : Hid (lineTextL n l = decDigits n ++ [58] ++ wordsT l (l.length / 8)) := Lib.hid rfl
  have hb0 := Lib.fresh_isBuilder 86 5 w
  have HB0 := Lib.hid (IsBuilderF.of hb0)
  have HBL0 : Hid (Below w.heap.size w (w.alloc (.cells #[.pointer none, .slice none 0 0] 86))) := Lib.hid ((Below.refl _ _).alloc (Nat.le_refl _) _)
  clear hb0 hpow htz
  obtain ⟨d, hd⟩ : ∃ d, decDigits n = d := ⟨_, rfl⟩
  have HI := Lib.hid (fun w (hb : Pow B w) => itoa_any B n w (by omega) hb)
  rw [hd] at HI HE hdl
  clear hd
  go_enter Tryd.func49, Tryd.ntmps49
  go_wp2_with (first
    | (go_at_call 47; go_must (refine (HI.out _ (HP.out.on (HBL0.out.mono hB))).mono ?_); rintro e w1 ⟨rfl, hb1⟩; have HB1 := Lib.hid (IsBuilderF.below HB0.out hb1); have HL1 := Lib.hid (HBL0.out.trans (hb1.mono HBL0.out.size)); clear hb1)
    | (go_at_call 46; go_must (refine (write_any w.heap.size w.heap.size [] (d ++ [58]) _ _ (ba_app d [58]) HB1.out (by simp; omega) HL1.out.size).mono ?_); rintro e w2 ⟨rfl, hb2, hl2⟩; have HB2 := Lib.hid hb2; have HL2 := Lib.hid (HL1.out.trans hl2); clear hb2 hl2))
  rw [List.nil_append] at HB2
  go_loopw [6] (fun va wr => ∃ k : Nat, 8 * k ≤ l.length ∧ va = .int .i64 ((8 * k : Nat) : Int) ∧ Hid (Lib.IsBuilderF 86 5 w.heap.size w.heap.size (Lib.byteCells (d ++ [58] ++ wordsT l k)) wr) ∧ Hid (Below w.heap.size w wr)) (fun va _ => (100000 - RowKit.intOf va).toNat)
  case atStart => exact ⟨0, by omega, rfl, by simpa [wordsT] using HB2, HL2⟩
  case round =>
    obtain ⟨k, hk, rfl, HB, HL⟩ := hrel
    rename World => wr
    by_cases hlt : 8 * k < l.length
    · have hlti : ((8 * k : Nat) : Int) < (l.length : Int) := by omega
      have HWd := Lib.hid (fun w => wordAt_any l (8 * k) w (by omega) (by omega))
      have hv := wordN_lt l (8 * k)
      have HS : Hid (wordsT l (k + 1) = wordsT l k ++ (32 :: hexN 16 (wordN l (8 * k)))) := Lib.hid rfl
      have hwl := wordsT_length l k
      generalize wordN l (8 * k) = v at *
      go_wp2_with (first
        | (go_at_call 37; go_must (refine (HWd.out _).mono ?_); rintro e w' ⟨rfl, hw⟩; have hw2 := hw.symm; clear hw; subst hw2)
        | (go_at_call 62; go_must (refine (format16 B v _ hv (HTZ.out.on (HL.out.mono hB)) (Nat.le_trans hB HL.out.size)).mono ?_); rintro e w3 ⟨nn, hnn, hup, rfl, hb3⟩; refine Hid.out ?_))
      have HB3 := Lib.hid (IsBuilderF.below HB.out hb3)
      have HL3 := Lib.hid (HL.out.trans (hb3.mono HL.out.size))
      have HXX : Hid (hexN 16 v = List.replicate (15 - nn) 48 ++ hexN (nn + 1) v) := Lib.hid (by
        have := hexN_pad (15 - nn) (nn + 1) v hup
        rw [show 15 - nn + (nn + 1) = 16 by omega] at this
        exact this)
      have hln : (hexN (nn + 1) v).length = nn + 1 := hexN_length _ _
      have hlr : (List.replicate (15 - nn) (48 : UInt8)).length = 15 - nn := by simp
      have h162 : (16 : Int) - ((nn : Int) + 1) = ((15 - nn : Nat) : Int) := by omega
      have HR2 := Lib.hid (fun w => repeat_any 48 (15 - nn) w (by omega))
      have hw8 : wrap64 (8 * (k : Int) + 8) = 8 * (k : Int) + 8 := by unfold wrap64; omega
      clear hup hb3
      generalize hexN (nn + 1) v = lx at *
      generalize List.replicate (15 - nn) (48 : UInt8) = l2 at *
      refine Lib.hid ?_
      go_wp2_with (first
        | (go_at_call 39; go_must (refine (HR2.out _).mono ?_); rintro e w4 ⟨rfl, hb4⟩; have HB4 := Lib.hid (IsBuilderF.below HB3.out hb4); have HL4 := Lib.hid (HL3.out.trans (hb4.mono HL3.out.size)); clear hb4)
        | (go_at_call 46; go_must (refine (write_any w.heap.size w.heap.size (d ++ [58] ++ wordsT l k) (32 :: (l2 ++ lx)) _ _ (by rw [show (⟨#[32]⟩ : ByteArray) = ⟨[32].toArray⟩ from rfl, ba_app, ba_app]; simp) HB4.out (by simp; omega) HL4.out.size).mono ?_); rintro e w5 ⟨rfl, hb5, hl5⟩; have HB5 := Lib.hid hb5; have HL5 := Lib.hid (HL4.out.trans hl5); clear hb5 hl5))
      go_roundw
      case rel => exact ⟨k + 1, by omega, by first | rfl | go_num | (congr 1; omega), Lib.hid (by rw [HS.out, HXX.out, ← List.append_assoc]; exact HB5.out), HL5⟩
      case measure => simp [RowKit.intOf] <;> omega
    · have hk8 : l.length / 8 = k := by omega
      have hlt2 : ¬ ((8 * k : Nat) : Int) < (l.length : Int) := by omega
      rw [hk8] at HE
      have HS := Lib.hid (Tryd.Builder_String_any_k w.heap.size w.heap.size (d ++ [58] ++ wordsT l k) wr HB.out HL.out.size)
      go_wp2_with (go_at_call 50; go_must (refine HS.out.mono ?_); rintro e w6 ⟨rfl, -, hb6, -⟩)
      go_ret
      rw [HE.out, List.append_assoc]
      exact ⟨rfl, HL.out.trans hb6⟩
theorem trimB_nil (l : List UInt8) : (Lib.trimB l 0 == []) = zeroL l := by
  unfold zeroL Lib.trimB Lib.trimLeftB Lib.trimRightB
  rw [Bool.eq_iff_iff]
  simp only [beq_iff_eq]
  rw [dropWhile_nil]
  constructor
  · intro h
    rw [List.all_reverse] at h
    rw [List.all_eq_true] at h ⊢
    intro x hx
    have key : l.reverse.dropWhile (· == 0) = [] := by
      cases hd : l.reverse.dropWhile (· == 0) with
      | nil => rfl
      | cons c t =>
        exfalso
        have h1 := h c (by rw [hd]; simp)
        have h2 := List.head?_dropWhile_not (· == (0 : UInt8)) l.reverse
        rw [hd] at h2
        simp at h2
        simp at h1
        exact h2 h1
    rw [dropWhile_nil, List.all_eq_true] at key
    exact key x (List.mem_reverse.2 hx)
  · intro h
    rw [List.all_eq_true] at h ⊢
    intro x hx
    have := (List.dropWhile_sublist (· == (0 : UInt8)) (l := l.reverse)).mem (List.mem_reverse.1 hx)
    exact h x (List.mem_reverse.1 this)
theorem isZero_any (l : List UInt8) (w : World) (hl : l.length ≤ 100000) : Calls Tryd.prog 48 #[str l] w fun e w' => e = .returned (.bool (zeroL l)) ∧ Below w.heap.size w w' := by
  have hs := str_size l
  have HT := Lib.hid (Tryd.strings_Trim_one ⟨l.toArray⟩ 0 (by decide) w (by omega))
  have HZ := Lib.hid (trimB_nil l)
  go_enter Tryd.func48, Tryd.ntmps48
  go_wp2_with (go_at_call 61; go_must (refine HT.out.mono ?_); rintro e w' ⟨rfl, hw⟩)
  go_ret
  refine ⟨ret_bool ?_, ?_⟩
  · rw [← HZ.out]; cases Lib.trimB l 0 <;> rfl
  · rcases hw with rfl | rfl
    · exact Below.refl _ _
    · exact (Below.refl _ _).drew
end Go.Proofs.YtnhddgmegnehaaaDoor.Base
