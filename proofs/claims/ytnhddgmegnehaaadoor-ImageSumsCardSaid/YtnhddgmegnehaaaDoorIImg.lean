/-
  CONTRACTS OF PACKAGE image: Lines, check, wordAt, Word, wordBytes, line, Equal, Bytes.
-/
import Derived.Test.YtnhddgmegnehaaaDoorIHex
set_option linter.unusedVariables false
set_option linter.unusedSimpArgs false
namespace Go.Proofs.YtnhddgmegnehaaaDoor.Base
open Go.ChangeShapes Go.WideShapes Go.ChangeAt Go.RowKit Go.Sort Go.Lib
abbrev img (l : List UInt8) : Value := .agg #[str l]
theorem lines_any (l : List UInt8) (w : World) (hl : l.length ≤ 4294967295) : Calls Tryd.prog 12 #[img l] w fun e w' => e = .returned (.int .i64 ((l.length / 64 : Nat) : Int)) ∧ Below w.heap.size w w' := by
  have hs := str_size l
  go_enter Tryd.func12, Tryd.ntmps12
  go_wp2
  go_ret
  exact ⟨ret_int (by first | rfl | omega), (Below.refl _ _).alloc (Nat.le_refl _) _⟩
theorem equal_any (l m : List UInt8) (w : World) : Calls Tryd.prog 23 #[img l, img m] w fun e w' => e = .returned (.bool (l == m)) ∧ Below w.heap.size w w' := by
  go_enter Tryd.func23, Tryd.ntmps23
  go_wp2
  go_ret
  exact ⟨ret_bool rfl, ((Below.refl _ _).alloc (Nat.le_refl _) _).alloc (by first | exact ((Below.refl w.heap.size w).alloc (Nat.le_refl _) _).size) _⟩
def cErr (l : List UInt8) (off : Int) : Int := if off % 8 ≠ 0 then 1 else if (l.length : Int) ≤ off then 2 else 0
theorem cErr_one {l : List UInt8} {off : Int} (h : ¬ off % 8 = 0) : cErr l off = 1 := if_pos h
theorem cErr_two {l : List UInt8} {off : Int} (h : off % 8 = 0) (h2 : (l.length : Int) ≤ off) : cErr l off = 2 := by unfold cErr; rw [if_neg (by omega), if_pos h2]
theorem cErr_ok {l : List UInt8} {off : Int} (h : off % 8 = 0) (h2 : ¬ (l.length : Int) ≤ off) : cErr l off = 0 := by unfold cErr; rw [if_neg (by omega), if_neg h2]
theorem check_any (l : List UInt8) (off : Int) (w : World) (hl : l.length ≤ 4294967295) (h0 : 0 ≤ off) (h1 : off ≤ 18446744073709551615) :
    Calls Tryd.prog 36 #[img l, .int .u64 off] w fun e w' => e = .returned (.int .i64 (cErr l off)) ∧ Below w.heap.size w w' := by
  have hs := str_size l
  by_cases hz : off % 8 = 0
  · have h2 := Lib.hid (@cErr_two l off hz)
    have h3 := Lib.hid (@cErr_ok l off hz)
    go_enter Tryd.func36, Tryd.ntmps36
    go_wp2
    all_goals (go_ret; refine ⟨ret_int ?_, (Below.refl _ _).alloc (Nat.le_refl _) _⟩; first | exact (h2.out (by omega)).symm | exact (h3.out (by omega)).symm)
  · have h2 := Lib.hid (@cErr_one l off hz)
    have hz2 : (off % 8 != 0) = true := by simpa using hz
    clear hz
    go_enter Tryd.func36, Tryd.ntmps36
    go_wp2
    go_ret; exact ⟨ret_int h2.out.symm, (Below.refl _ _).alloc (Nat.le_refl _) _⟩
def leN : List UInt8 → Nat
  | [] => 0
  | b :: bs => b.toNat + 256 * leN bs
theorem leN_snoc (bs : List UInt8) (b : UInt8) : leN (bs ++ [b]) = leN bs + b.toNat * 256 ^ bs.length := by
  induction bs with
  | nil => simp [leN]
  | cons c bs ih =>
    rw [List.cons_append, leN, ih, leN, List.length_cons, Nat.pow_succ, Nat.mul_add, ← Nat.add_assoc, Nat.mul_comm (256 ^ bs.length) 256, Nat.mul_left_comm]
theorem leN_lt (bs : List UInt8) : leN bs < 256 ^ bs.length := by
  induction bs with
  | nil => simp [leN]
  | cons c bs ih =>
    have := c.toNat_lt
    rw [leN, List.length_cons, Nat.pow_succ]; omega
def wordN (l : List UInt8) (at' : Nat) : Nat := leN ((l.drop at').take 8)
theorem wordN_lt (l : List UInt8) (n : Nat) : wordN l n < 18446744073709551616 := by
  have h1 := leN_lt ((l.drop n).take 8)
  have h2 : 256 ^ ((l.drop n).take 8).length ≤ 256 ^ 8 := Nat.pow_le_pow_right (by decide) (by rw [List.length_take]; omega)
  unfold wordN; omega
theorem wordN_step (l : List UInt8) (n k : Nat) (h : n + k < l.length) : ((l.drop n).take (k + 1)) = ((l.drop n).take k) ++ [l.getD (n + k) 0] ∧ ((l.drop n).take k).length = k := by
  have hk : k < (l.drop n).length := by rw [List.length_drop]; omega
  refine ⟨?_, by rw [List.length_take]; omega⟩
  rw [List.take_add_one, List.getElem?_eq_getElem hk, List.getD, List.getElem?_eq_getElem h, List.getElem_drop]; rfl
set_option maxRecDepth 100000 in
theorem wordAt_any (l : List UInt8) (n : Nat) (w : World) (hn : n + 8 ≤ l.length) (hl : l.length ≤ 4294967295) : Calls Tryd.prog 37 #[str l, .int .i64 (n : Int)] w fun e w' => e = .returned (.int .u64 (wordN l n : Nat)) ∧ w' = w := by
  have HW : Hid (wordN l n = leN ((l.drop n).take 8)) := Lib.hid rfl
  go_enter Tryd.func37, Tryd.ntmps37
  go_wp2
  go_loop [5, 7] (fun va vk => ∃ k : Nat, k ≤ 8 ∧ va = .int .u64 (leN ((l.drop n).take k) : Nat) ∧ vk = .int .i64 (k : Int)) (fun _ vk => (8 - RowKit.intOf vk).toNat)
  case atStart => exact ⟨0, by omega, by simp [leN], rfl⟩
  case round =>
    obtain ⟨k, hk, rfl, rfl⟩ := hrel
    by_cases h8 : k < 8
    · obtain ⟨e1, e2⟩ := wordN_step l n k (by omega)
      have hb := leN_lt ((l.drop n).take k)
      rw [e2] at hb
      obtain ⟨b, hbb⟩ : ∃ b : Nat, (l.getD (n + k) 0).toNat = b := ⟨_, rfl⟩
      have hb256 : b < 256 := by have := (l.getD (n + k) 0).toNat_lt; omega
      have hx : ∀ W, (Instr.index 9 (.string ⟨l.toArray⟩) (.int .i64 ((n : Int) + (k : Int)))).run Tryd.prog W = .ok (.int .u8 (b : Int)) W := fun W => by
        have := idx_str l (n + k) (by omega) W
        rw [hbb, show ((n + k : Nat) : Int) = (n : Int) + (k : Int) by omega] at this
        exact this
      have HS : Hid (leN ((l.drop n).take (k + 1)) = leN ((l.drop n).take k) + b * 256 ^ k) := Lib.hid (by rw [e1, leN_snoc, e2, hbb])
      generalize leN ((l.drop n).take k) = a at *
      clear e1 e2 hbb
      have HO := Lib.hid (PackMath.or_byte a b k hb hb256 h8)
      have HH := Lib.hid (PackMath.shl_byte b k hb256 h8).1
      have hw1 : wrap64 ((n : Int) + (k : Int)) = (n : Int) + (k : Int) := by unfold wrap64; omega
      clear hb
      go_wp2
      go_round
      case rel => exact ⟨k + 1, by omega, by rw [HS.out, HH.out, HO.out], by go_num⟩
      case measure => simp [RowKit.intOf]; omega
    · have : k = 8 := by omega
      subst this
      go_wp2
      go_ret
      rw [HW.out]
      exact ⟨rfl, rfl⟩
def wNum (l : List UInt8) (off : Int) : Int := if cErr l off = 0 then (wordN l off.toNat : Nat) else 0
theorem wNum_ok {l : List UInt8} {off : Int} (h : cErr l off = 0) : wNum l off = (wordN l off.toNat : Nat) := if_pos h
theorem wNum_bad {l : List UInt8} {off : Int} (h : ¬ cErr l off = 0) : wNum l off = 0 := if_neg h
theorem cErr_zero {l : List UInt8} {off : Int} (h : cErr l off = 0) : off % 8 = 0 ∧ off < (l.length : Int) := by
  unfold cErr at h
  by_cases h1 : off % 8 ≠ 0
  · rw [if_pos h1] at h; omega
  · rw [if_neg h1] at h
    by_cases h2 : (l.length : Int) ≤ off
    · rw [if_pos h2] at h; omega
    · omega
theorem word_any (l : List UInt8) (off : Int) (w : World) (hl : l.length ≤ 4294967295) (h64 : l.length % 8 = 0) (h0 : 0 ≤ off) (h1 : off ≤ 18446744073709551615) :
    Calls Tryd.prog 16 #[img l, .int .u64 off] w fun e w' => e = .returned (.tuple #[.int .u64 (wNum l off), .int .i64 (cErr l off)]) ∧ Below w.heap.size w w' := by
  have HC := Lib.hid (fun w => check_any l off w hl h0 h1)
  have hb0 : Below w.heap.size w (w.alloc (.cells #[str l] 25)) := (Below.refl _ _).alloc (Nat.le_refl _) _
  have hcell : (w.alloc (.cells #[str l] 25)).cell? ⟨w.heap.size, 0, none⟩ = some (str l) := by rw [World.cell?_alloc_new]; rfl
  by_cases hz : cErr l off = 0
  · obtain ⟨z1, z2⟩ := cErr_zero hz
    obtain ⟨n, rfl⟩ : ∃ n : Nat, off = n := ⟨off.toNat, by omega⟩
    have hv := wNum_ok hz
    rw [show ((n : Int)).toNat = n by omega] at hv
    rw [hz, hv]
    rw [hz] at HC
    have HW := Lib.hid (fun w => wordAt_any l n w (by omega) hl)
    have hw : IntKind.i64.wrap (n : Int) = (n : Int) := IntWalk.i64_in _ (by omega)
    clear hz hv z1 z2
    generalize wordN l n = v at *
    go_enter Tryd.func16, Tryd.ntmps16
    go_wp2_with (first
      | (go_at_call 36; refine (HC.out _).mono ?_; rintro e w1 ⟨rfl, hb⟩; have hcell1 := (hb.cell (p := ⟨w.heap.size, 0, none⟩) (by simp)).trans hcell; have hb1 := hb0.trans (hb.mono hb0.size))
      | (go_at_call 37; refine (HW.out _).mono ?_; rintro e w' ⟨rfl, hw⟩; have hw2 := hw.symm; clear hw; subst hw2))
    go_ret2
    exact ⟨rfl, hb1⟩
  · have hv := wNum_bad hz
    rw [hv]
    have hz2 : (cErr l off == 0) = false := by rw [beq_eq_false_iff_ne]; exact hz
    generalize cErr l off = x at *
    clear hv
    go_enter Tryd.func16, Tryd.ntmps16
    go_wp2_with (go_at_call 36; refine (HC.out _).mono ?_; rintro e w1 ⟨rfl, hb⟩; have hb1 := hb0.trans (hb.mono hb0.size))
    go_ret2
    exact ⟨rfl, hb1⟩
end Go.Proofs.YtnhddgmegnehaaaDoor.Base
