/-
  HEXADECIMAL DIGITS; CONTRACTS: strconv.FormatUint at base 16, strings.Repeat of one byte.
-/
import Derived.Test.YtnhddgmegnehaaaDoorIBase
set_option linter.unusedVariables false
set_option linter.unusedSimpArgs false
namespace Go.Proofs.YtnhddgmegnehaaaDoor.Base
open Go.ChangeShapes Go.WideShapes Go.ChangeAt Go.RowKit Go.Sort Go.Lib
theorem ofNat_toNat (n : Nat) (h : n < 256) : (UInt8.ofNat n).toNat = n := by
  rw [UInt8.toNat_ofNat']; omega
/-- a hexadecimal digit. -/
def hx (i : Nat) : UInt8 := if i < 10 then UInt8.ofNat (48 + i) else UInt8.ofNat (87 + i)
/-- the n lowest hexadecimal digits, the highest ahead. -/
def hexN : Nat → Nat → List UInt8
  | 0, _ => []
  | n + 1, u => hexN n (u / 16) ++ [hx (u % 16)]
theorem hexN_length (n u : Nat) : (hexN n u).length = n := by
  induction n generalizing u with
  | zero => rfl
  | succ n ih => rw [hexN, List.length_append, ih]; rfl
theorem hexN_at (n u t : Nat) (h : t < n) : (hexN n u)[n - 1 - t]? = some (hx (u / 16 ^ t % 16)) := by
  induction n generalizing u t with
  | zero => omega
  | succ n ih =>
    rw [hexN]
    cases t with
    | zero =>
      rw [List.getElem?_append_right (by rw [hexN_length]; omega), hexN_length]
      simp
    | succ t =>
      rw [List.getElem?_append_left (by rw [hexN_length]; omega), show n + 1 - 1 - (t + 1) = n - 1 - t by omega, ih (u / 16) t (by omega), Nat.div_div_eq_div_mul, Nat.pow_succ, Nat.mul_comm]
theorem hexN_zero (n : Nat) : hexN n 0 = List.replicate n 48 := by
  induction n with
  | zero => rfl
  | succ n ih => rw [hexN, Nat.zero_div, ih, List.replicate_succ']; rfl
/-- zeros ahead. -/
theorem hexN_pad (m n u : Nat) (h : u < 16 ^ n) : hexN (m + n) u = List.replicate m 48 ++ hexN n u := by
  induction n generalizing u with
  | zero =>
    have : u = 0 := by simpa using h
    subst this
    rw [Nat.add_zero, hexN_zero]; simp [hexN]
  | succ n ih =>
    rw [← Nat.add_assoc, hexN, hexN, ih (u / 16) (by rw [Nat.pow_succ] at h; omega), List.append_assoc]
theorem hexN_cons (n u : Nat) : hexN (n + 1) u = hx (u / 16 ^ n % 16) :: hexN n u := by
  induction n generalizing u with
  | zero => simp [hexN]
  | succ n ih =>
    rw [hexN, ih (u / 16), Nat.div_div_eq_div_mul]
    conv => rhs; rw [hexN]
    rw [List.cons_append, Nat.pow_succ, Nat.mul_comm 16]
/-- the one cell of the table that the library reads for base 16. -/
def Tz (B : Nat) (w : World) : Prop := 7 < B ∧ w.cell? ⟨7, 15, none⟩ = some (.int .u8 4)
theorem Tz.on {B : Nat} {w w' : World} (h : Tz B w) (hb : Below B w w') : Tz B w' := ⟨h.1, (hb.cell h.1).trans h.2⟩
theorem tz64_16 (B : Nat) (w : World) (h : Tz B w) : Calls Tryd.prog 96 #[.int .u64 16] w fun e w' => e = .returned (.int .i64 4) ∧ w' = w := by
  have hc := h.2
  have hk : IntKind.u64.wrap (bits .and .u64 16 (IntKind.u64.wrap (-16)) * 285870213051353865) / 288230376151711744 = 15 := by decide +kernel
  go_enter Tryd.func96, Tryd.ntmps96
  go_wp2
  go_ret
  exact ⟨rfl, rfl⟩
theorem tz_16 (B : Nat) (w : World) (h : Tz B w) : Calls Tryd.prog 91 #[.int .u64 16] w fun e w' => e = .returned (.int .i64 4) ∧ w' = w := by
  have H := Lib.hid (tz64_16 B w h)
  clear h
  go_enter Tryd.func91, Tryd.ntmps91
  go_wp2_with (go_at_call 96; refine H.out.mono ?_; rintro e w' ⟨rfl, hw⟩; have hw2 := hw.symm; clear hw; subst hw2)
  go_ret
  exact ⟨rfl, rfl⟩
theorem pow2_16 (w : World) : Calls Tryd.prog 90 #[.int .i64 16] w fun e w' => e = .returned (.bool true) ∧ w' = w := by
  have hk : bits .and .i64 16 15 = 0 := by decide +kernel
  go_enter Tryd.func90, Tryd.ntmps90
  go_wp2
  go_ret
  exact ⟨rfl, rfl⟩
def enc8 (b : UInt8) : Value := .int .u8 (b.toNat : Int)
def HexInv (u n : Nat) (d : Array UInt8) : Prop := ∀ t, t < n → d[64 - t]! = hx (u / 16 ^ t % 16)
theorem digits_hx : ∀ i : Fin 16, Lib.digits36.data.toList.getD i.val 0 = hx i.val := by decide +kernel
theorem idx_digits (k : IntKind) (z : Int) (i : Nat) (hz : z = (i : Int)) (hi : i < 16) (w : World) :
    (Instr.index 9 (.string Lib.digits36) (.int k z)).run Tryd.prog w = .ok (.int .u8 ((hx i).toNat : Int)) w := by
  subst hz
  rw [run_index_string w 9 Lib.digits36 k _ Tryd.underlying9, dif_pos ⟨by omega, by rw [Lib.digits36_size]; omega⟩]
  have e : ((i : Int)).toNat = i := by omega
  simp only [e]
  rw [Lib.getD_at Lib.digits36 i (by rw [Lib.digits36_size]; omega), digits_hx ⟨i, hi⟩]
theorem and15 (v : Nat) (h : v < 18446744073709551616) : bits .and .u64 (v : Int) 15 = ((v % 16 : Nat) : Int) := by
  have := u64_and_nat v 15 h (by omega)
  rw [show ((15 : Nat) : Int) = 15 from rfl] at this
  rw [this, show (15 : Nat) = 2 ^ 4 - 1 from rfl, Nat.and_two_pow_sub_one_eq_mod]
theorem HexInv.step {u n : Nat} {d : Array UInt8} (h : HexInv u n d) (hd : d.size = 65) (m : Nat) (hm : n + (m + 1) = 65) (v : Nat) (hv : u / 16 ^ n = v) : HexInv u (n + 1) (d.setIfInBounds m (hx (v % 16))) := by
  intro t ht
  by_cases he : t = n
  · subst he
    rw [show 64 - t = m by omega, getElem!_set_same _ _ _ (by omega), hv]
  · have := h t (by omega)
    rw [← this, getElem!_pos _ _ (by simp; omega), getElem!_pos _ _ (by omega), Array.getElem_setIfInBounds, if_neg (by omega)]
theorem HexInv.cells {u n : Nat} {d : Array UInt8} (h : HexInv u n d) (hn : n ≤ 65) (j : Nat) (hj : j < (hexN n u).length) : d[65 - n + j]! = (hexN n u)[j] := by
  rw [hexN_length] at hj
  have e := hexN_at n u (n - 1 - j) (by omega)
  rw [show n - 1 - (n - 1 - j) = j by omega] at e
  have e2 := List.getElem?_eq_some_iff.1 e
  rw [e2.2, ← h (n - 1 - j) (by omega), show 65 - n + j = 64 - (n - 1 - j) by omega]
set_option maxHeartbeats 1600000 in
set_option maxRecDepth 100000 in
theorem formatBits16 (B u : Nat) (w : World) (hu : u < 18446744073709551616) (h : Tz B w) (hB : B ≤ w.heap.size) :
    Calls Tryd.prog 82 #[.slice none 0 0, .int .u64 u, .int .i64 16, .bool false, .bool false] w fun e w' => ∃ n, n < 16 ∧ u < 16 ^ (n + 1) ∧ e = .returned (.tuple #[.slice none 0 0, str (hexN (n + 1) u)]) ∧ Below w.heap.size w w' := by
  have H1 := Lib.hid pow2_16
  have H2 := Lib.hid (fun w' (hb : Below w.heap.size w w') => tz_16 B w' (h.on (hb.mono hB)))
  clear h
  go_enter Tryd.func82, Tryd.ntmps82
  go_name_bytes_deep 38 MS hMS
  clear hMS
  go_name_bytes_deep 30 DG hDG
  have eDG : DG = Lib.digits36 := by rw [← hDG]; decide +kernel
  subst eDG
  clear hDG
  go_wp2_with (first
    | (go_at_call 90; refine (H1.out _).mono ?_; rintro e w' ⟨rfl, hw⟩; have hw2 := hw.symm; clear hw; subst hw2)
    | (go_at_call 91; refine (H2.out _ ((Below.refl _ _).alloc (Nat.le_refl _) _)).mono ?_; rintro e w' ⟨rfl, hw⟩; have hw2 := hw.symm; clear hw; subst hw2))
  go_name_world W1 hW1
  have hz : W1 = w.alloc (.cells (Array.replicate 65 (.int .u8 0)) 137) := by rw [← hW1]; rfl
  have hH0 : Holds enc8 W1 w.heap.size 0 (Array.replicate 65 (0 : UInt8)) := fun j hj => by
    have hj' : j < 65 := by simpa using hj
    rw [hz]
    refine ⟨?_, World.frozen?_alloc_new _ _ _ _⟩
    rw [World.cell?_alloc_new, Array.getElem?_replicate, if_pos (by omega), getElem!_pos _ j hj]
    simp [enc8]
  have HZ := Lib.hid hz
  have HH0 := Lib.hid hH0
  clear hz hH0 hW1 H1 H2
  go_loopw [1, 13] (fun vu vi wr => ∃ (n m : Nat) (dk : Array UInt8), n + m = 65 ∧ n ≤ 15 ∧ vu = .int .u64 (u / 16 ^ n : Nat) ∧ vi = .int .i64 (m : Int) ∧ wr = putRow enc8 W1 w.heap.size 0 dk ∧ dk.size = 65 ∧ Hid (HexInv u n dk)) (fun _ vi _ => (RowKit.intOf vi).toNat)
  case atStart => exact ⟨0, 65, Array.replicate 65 0, by omega, by omega, by simp, rfl, (putRow_self _ _ _ _ _ HH0.out).symm, by simp, Lib.hid (fun t ht => by omega)⟩
  case round =>
    obtain ⟨n, m1, dk, hnm, hn, rfl, rfl, hw0, hdk, HI⟩ := hrel
    obtain ⟨m, rfl⟩ : ∃ m, m1 = m + 1 := ⟨m1 - 1, by omega⟩
    rename World => W0
    have hHk : Holds enc8 W0 w.heap.size 0 dk := by rw [hw0]; exact holds_putRow _ W1 w.heap.size 0 _ dk HH0.out (by rw [hdk]; simp)
    have hc0 : W0.cell? ⟨w.heap.size, m, none⟩ = some (.int .u8 (dk[m]!.toNat : Int)) := by have := (hHk m (by omega)).1; rw [Nat.zero_add] at this; exact this
    have hf0 : W0.frozen? ⟨w.heap.size, m, none⟩ = false := by have := (hHk m (by omega)).2; rw [Nat.zero_add] at this; exact this
    generalize dk[m]!.toNat = old at hc0
    have HW0 := Lib.hid hw0
    obtain ⟨v, hv⟩ : ∃ v, u / 16 ^ n = v := ⟨_, rfl⟩
    rw [hv]
    have hv64 : v < 18446744073709551616 := by have := Nat.div_le_self u (16 ^ n); omega
    have hv16 : 16 ≤ v → n ≤ 14 := fun h16 => by
      apply Classical.byContradiction; intro hn14
      have : n = 15 := by omega
      subst this
      have : u / 16 ^ 15 < 16 := by omega
      omega
    have HV := Lib.hid hv
    clear hHk hw0 hv
    by_cases h16 : 16 ≤ v
    · have hn14 := hv16 h16
      have hidx : ∀ W, (Instr.index 9 (.string Lib.digits36) (.int .u64 (bits .and .u64 (v : Int) 15))).run Tryd.prog W = .ok (.int .u8 ((hx (v % 16)).toNat : Int)) W := fun W => idx_digits .u64 _ (v % 16) (and15 v hv64) (by omega) W
      clear hv16
      go_wp2
      go_roundw
      case rel =>
        refine ⟨n + 1, m, dk.setIfInBounds m (hx (v % 16)), by omega, by omega, ?_, rfl, ?_, by simpa using hdk, Lib.hid (HI.out.step hdk m hnm v HV.out)⟩
        · rw [Nat.pow_succ, ← Nat.div_div_eq_div_mul, HV.out]; rfl
        · rw [HW0.out]
          have := store1_world W1 w.heap.size 0 dk 0 m (hx (v % 16)) (by omega)
          rw [Nat.zero_add] at this
          exact this
      case measure => simp [RowKit.intOf]
    · have hidx : ∀ W, (Instr.index 9 (.string Lib.digits36) (.int .u64 (v : Int))).run Tryd.prog W = .ok (.int .u8 ((hx (v % 16)).toNat : Int)) W := fun W => idx_digits .u64 _ (v % 16) (by omega) (by omega) W
      have hal : Tryd.prog.arrayLen 137 = 65 := by kernel_rfl
      have hsl : ∀ W, (Instr.sliceAt 137 (.pointer (some ⟨w.heap.size, 0, none⟩)) (some (.int .i64 (m : Int))) none none).run Tryd.prog W = .ok (.slice (some ⟨w.heap.size, m, none⟩) (n + 1) (n + 1)) W := fun W => by
        rw [run_sliceAt_array_l W 137 ⟨w.heap.size, 0, none⟩ (by simp [Program.arrayLen, Program.elem, Tryd.underlying137]) .i64 (m : Int) (by omega) (by rw [hal]; omega), hal]
        go_simp
        omega
      have hW2 : W0.setCell ⟨w.heap.size, m, none⟩ (.int .u8 ((hx (v % 16)).toNat : Int)) = putRow enc8 W1 w.heap.size 0 (dk.setIfInBounds m (hx (v % 16))) := by
        rw [HW0.out]
        have := store1_world W1 w.heap.size 0 dk 0 m (hx (v % 16)) (by omega)
        rw [Nat.zero_add] at this
        exact this
      have HI2 := Lib.hid (HI.out.step hdk m hnm v HV.out)
      have hcv : (convert 22 9 (.slice (some ⟨w.heap.size, m, none⟩) (n + 1) (n + 1))).run Tryd.prog (W0.setCell ⟨w.heap.size, m, none⟩ (.int .u8 ((hx (v % 16)).toNat : Int))) = .ok (.string ⟨(hexN (n + 1) u).toArray⟩) (W0.setCell ⟨w.heap.size, m, none⟩ (.int .u8 ((hx (v % 16)).toNat : Int))) := by
        rw [hW2]
        have h := run_convert_bytes_back (P := Tryd.prog) (putRow enc8 W1 w.heap.size 0 (dk.setIfInBounds m (hx (v % 16)))) 22 9 5 ⟨w.heap.size, m, none⟩ (n + 1) (hexN (n + 1) u) Tryd.underlying22 Tryd.underlying5 Tryd.underlying9 (fun j hj => by
          have hj2 : j < n + 1 := by rw [hexN_length] at hj; exact hj
          rw [Lib.add_plain, ← HI2.out.cells (by omega) j hj, show 65 - (n + 1) + j = m + j by omega]
          have := cell?_putRow enc8 W1 w.heap.size 0 _ (dk.setIfInBounds m (hx (v % 16))) HH0.out (by simp; omega) (m + j) (by simp; omega)
          rw [Nat.zero_add] at this
          exact this)
        rw [hexN_length] at h
        exact h
      have HG := Lib.hid (Lib.fin_at w (.cells (Array.replicate 65 (.int .u8 0)) 137) (dk.setIfInBounds m (hx (v % 16))) 0 0)
      have HW2 := Lib.hid hW2
      have hup : u < 16 ^ (n + 1) := by
        have h2 : u < 16 * 16 ^ n := (Nat.div_lt_iff_lt_mul (Nat.pow_pos (by decide))).1 (by rw [HV.out]; omega)
        rw [Nat.pow_succ, Nat.mul_comm]; exact h2
      have HUP := Lib.hid hup
      clear hv16 hW2 hup hal
      go_wp2
      go_ret2
      refine ⟨n, by omega, HUP.out, rfl, ?_⟩
      rw [HW2.out, HZ.out]
      obtain ⟨os, eo⟩ := HG.out
      have e2 : putRow enc8 (w.alloc (.cells (Array.replicate 65 (.int .u8 0)) 137)) w.heap.size 0 (dk.setIfInBounds m (hx (v % 16))) = grow (w.drewN 0) os := eo
      rw [e2]
      exact Lib.below_grow w.heap.size w (Nat.le_refl _) 0 os
theorem iformat16 (B u : Nat) (w : World) (hu : u < 18446744073709551616) (h : Tz B w) (hB : B ≤ w.heap.size) :
    Calls Tryd.prog 77 #[.int .u64 u, .int .i64 16] w fun e w' => ∃ n, n < 16 ∧ u < 16 ^ (n + 1) ∧ e = .returned (str (hexN (n + 1) u)) ∧ Below w.heap.size w w' := by
  have H := Lib.hid (formatBits16 B u w hu h hB)
  clear h
  go_enter Tryd.func77, Tryd.ntmps77
  go_wp2_with (go_at_call 82; refine H.out.mono ?_; rintro e w' ⟨n, h1, h2, rfl, hb⟩)
  go_ret
  exact ⟨n, h1, h2, rfl, hb⟩
theorem format16 (B u : Nat) (w : World) (hu : u < 18446744073709551616) (h : Tz B w) (hB : B ≤ w.heap.size) :
    Calls Tryd.prog 62 #[.int .u64 u, .int .i64 16] w fun e w' => ∃ n, n < 16 ∧ u < 16 ^ (n + 1) ∧ e = .returned (str (hexN (n + 1) u)) ∧ Below w.heap.size w w' := by
  have H := Lib.hid (iformat16 B u w hu h hB)
  clear h
  go_enter Tryd.func62, Tryd.ntmps62
  go_wp2_with (go_at_call 77; refine H.out.mono ?_; rintro e w' ⟨n, h1, h2, rfl, hb⟩)
  go_ret
  exact ⟨n, h1, h2, rfl, hb⟩
theorem repeat_one (x : UInt8) (c : Nat) : Lib.repeatL ([x] : List UInt8) c = List.replicate c x := by
  induction c with
  | zero => rfl
  | succ c ih => rw [Lib.repeatL, ih, List.replicate_succ]; rfl
theorem repeat_any (x : UInt8) (c : Nat) (w : World) (hc : c ≤ 1000000) :
    Calls Tryd.prog 39 #[str [x], .int .i64 c] w fun e w' => e = .returned (str (List.replicate c x)) ∧ Below w.heap.size w w' := by
  refine (Tryd.strings_Repeat ⟨[x].toArray⟩ c w (by omega) (by rw [str_size]; simp; omega)).mono ?_
  rintro e w' ⟨rfl, hb⟩
  refine ⟨?_, hb⟩
  rw [← repeat_one]
end Go.Proofs.YtnhddgmegnehaaaDoor.Base
