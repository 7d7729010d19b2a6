/-
  CONTRACTS: math/bits.TrailingZeros at 16, internal/strconv.formatBits at base 16.
-/
import Derived.Test.YtkngmanfekcjmaaDoorPHexM
import Derived.Lib.Walk
set_option linter.unusedVariables false
set_option linter.unusedSimpArgs false
namespace Go.Proofs.YtkngmanfekcjmaaDoor.Base
open Go.ChangeShapes Go.WideShapes Go.ChangeAt Go.RowKit Go.Sort Go.Lib Go.Proofs.YtkngmanfekcjmaaDoor.PM
/-- the one cell of the table that the library reads for base 16. -/
def Tz (B : Nat) (w : World) : Prop := 5 < B ∧ w.cell? ⟨5, 15, none⟩ = some (.int .u8 4)
theorem Tz.on {B : Nat} {w w' : World} (h : Tz B w) (hb : Below B w w') : Tz B w' := ⟨h.1, (hb.cell h.1).trans h.2⟩
theorem tz64_16 (B : Nat) (w : World) (h : Tz B w) : Calls Tryd.prog 84 #[.int .u64 16] w fun e w' => e = .returned (.int .i64 4) ∧ w' = w := by
  have hc := h.2
  have hk : IntKind.u64.wrap (bits .and .u64 16 (IntKind.u64.wrap (-16)) * 285870213051353865) / 288230376151711744 = 15 := by decide +kernel
  go_enter Tryd.func84, Tryd.ntmps84
  go_wp2
  go_ret
  exact ⟨rfl, rfl⟩
theorem tz_16 (B : Nat) (w : World) (h : Tz B w) : Calls Tryd.prog 77 #[.int .u64 16] w fun e w' => e = .returned (.int .i64 4) ∧ w' = w := by
  have H := Lib.hid (tz64_16 B w h)
  clear h
  go_enter Tryd.func77, Tryd.ntmps77
  go_wp2_with (go_at_call 84; refine H.out.mono ?_; rintro e w' ⟨rfl, hw⟩; have hw2 := hw.symm; clear hw; subst hw2)
  go_ret
  exact ⟨rfl, rfl⟩
theorem pow2_16 (w : World) : Calls Tryd.prog 76 #[.int .i64 16] w fun e w' => e = .returned (.bool true) ∧ w' = w := by
  have hk : bits .and .i64 16 15 = 0 := by decide +kernel
  go_enter Tryd.func76, Tryd.ntmps76
  go_wp2
  go_ret
  exact ⟨rfl, rfl⟩
def enc8 (b : UInt8) : Value := .int .u8 (b.toNat : Int)
def HexInv (u n : Nat) (d : Array UInt8) : Prop := ∀ t, t < n → d[64 - t]! = hx (u / 16 ^ t % 16)
theorem digits_hx : ∀ i : Fin 16, Lib.digits36.data.toList.getD i.val 0 = hx i.val := by decide +kernel
theorem idx_digits (k : IntKind) (z : Int) (i : Nat) (hz : z = (i : Int)) (hi : i < 16) (w : World) :
    (Instr.index 9 (.string Lib.digits36) (.int k z)).run Tryd.prog w = .ok (.int .u8 ((hx i).toNat : Int)) w := by
  subst hz
  rw [run_index_string w 9 Lib.digits36 k _ Tryd.underlying9, dif_pos ⟨by omega, by rw [Lib.digits36_size]; omega⟩]
  have e : ((i : Int)).toNat = i := by omega
  simp only [e]
  rw [Lib.getD_at Lib.digits36 i (by rw [Lib.digits36_size]; omega), digits_hx ⟨i, hi⟩]
theorem and15 (v : Nat) (h : v < 18446744073709551616) : bits .and .u64 (v : Int) 15 = ((v % 16 : Nat) : Int) := by
  have := u64_and_nat v 15 h (by omega)
  rw [show ((15 : Nat) : Int) = 15 from rfl] at this
  rw [this, show (15 : Nat) = 2 ^ 4 - 1 from rfl, Nat.and_two_pow_sub_one_eq_mod]
theorem HexInv.step {u n : Nat} {d : Array UInt8} (h : HexInv u n d) (hd : d.size = 65) (m : Nat) (hm : n + (m + 1) = 65) (v : Nat) (hv : u / 16 ^ n = v) : HexInv u (n + 1) (d.setIfInBounds m (hx (v % 16))) := by
  intro t ht
  by_cases he : t = n
  · subst he
    rw [show 64 - t = m by omega, getElem!_set_same _ _ _ (by omega), hv]
  · have := h t (by omega)
    rw [← this, getElem!_pos _ _ (by simp; omega), getElem!_pos _ _ (by omega), Array.getElem_setIfInBounds, if_neg (by omega)]
theorem HexInv.cells {u n : Nat} {d : Array UInt8} (h : HexInv u n d) (hn : n ≤ 65) (j : Nat) (hj : j < (hexN n u).length) : d[65 - n + j]! = (hexN n u)[j] := by
  rw [hexN_length] at hj
  have e := hexN_at n u (n - 1 - j) (by omega)
  rw [show n - 1 - (n - 1 - j) = j by omega] at e
  have e2 := List.getElem?_eq_some_iff.1 e
  rw [e2.2, ← h (n - 1 - j) (by omega), show 65 - n + j = 64 - (n - 1 - j) by omega]
set_option maxHeartbeats 1600000 in
set_option maxRecDepth 100000 in
theorem formatBits16 (B u : Nat) (w : World) (hu : u < 18446744073709551616) (h : Tz B w) (hB : B ≤ w.heap.size) :
    Calls Tryd.prog 60 #[.slice none 0 0, .int .u64 u, .int .i64 16, .bool false, .bool false] w fun e w' => ∃ n, n < 16 ∧ u < 16 ^ (n + 1) ∧ e = .returned (.tuple #[.slice none 0 0, str (hexN (n + 1) u)]) ∧ Below w.heap.size w w' := by
  have H1 := Lib.hid pow2_16
  have H2 := Lib.hid (fun w' (hb : Below w.heap.size w w') => tz_16 B w' (h.on (hb.mono hB)))
  clear h
  go_enter Tryd.func60, Tryd.ntmps60
  go_name_bytes_deep 38 MS hMS
  clear hMS
  go_name_bytes_deep 30 DG hDG
  have eDG : DG = Lib.digits36 := by rw [← hDG]; decide +kernel
  subst eDG
  clear hDG
  go_wp2_with (first
    | (go_at_call 76; refine (H1.out _).mono ?_; rintro e w' ⟨rfl, hw⟩; have hw2 := hw.symm; clear hw; subst hw2)
    | (go_at_call 77; refine (H2.out _ ((Below.refl _ _).alloc (Nat.le_refl _) _)).mono ?_; rintro e w' ⟨rfl, hw⟩; have hw2 := hw.symm; clear hw; subst hw2))
  go_name_world W1 hW1
  have hz : W1 = w.alloc (.cells (Array.replicate 65 (.int .u8 0)) 103) := by rw [← hW1]; rfl
  have hH0 : Holds enc8 W1 w.heap.size 0 (Array.replicate 65 (0 : UInt8)) := fun j hj => by
    have hj' : j < 65 := by simpa using hj
    rw [hz]
    refine ⟨?_, World.frozen?_alloc_new _ _ _ _⟩
    rw [World.cell?_alloc_new, Array.getElem?_replicate, if_pos (by omega), getElem!_pos _ j hj]
    simp [enc8]
  have HZ := Lib.hid hz
  have HH0 := Lib.hid hH0
  clear hz hH0 hW1 H1 H2
  go_loopw [1, 13] (fun vu vi wr => ∃ (n m : Nat) (dk : Array UInt8), n + m = 65 ∧ n ≤ 15 ∧ vu = .int .u64 (u / 16 ^ n : Nat) ∧ vi = .int .i64 (m : Int) ∧ wr = putRow enc8 W1 w.heap.size 0 dk ∧ dk.size = 65 ∧ Hid (HexInv u n dk)) (fun _ vi _ => (RowKit.intOf vi).toNat)
  case atStart => exact ⟨0, 65, Array.replicate 65 0, by omega, by omega, by simp, rfl, (putRow_self _ _ _ _ _ HH0.out).symm, by simp, Lib.hid (fun t ht => by omega)⟩
  case round =>
    obtain ⟨n, m1, dk, hnm, hn, rfl, rfl, hw0, hdk, HI⟩ := hrel
    obtain ⟨m, rfl⟩ : ∃ m, m1 = m + 1 := ⟨m1 - 1, by omega⟩
    rename World => W0
    have hHk : Holds enc8 W0 w.heap.size 0 dk := by rw [hw0]; exact holds_putRow _ W1 w.heap.size 0 _ dk HH0.out (by rw [hdk]; simp)
    have hc0 : W0.cell? ⟨w.heap.size, m, none⟩ = some (.int .u8 (dk[m]!.toNat : Int)) := by have := (hHk m (by omega)).1; rw [Nat.zero_add] at this; exact this
    have hf0 : W0.frozen? ⟨w.heap.size, m, none⟩ = false := by have := (hHk m (by omega)).2; rw [Nat.zero_add] at this; exact this
    generalize dk[m]!.toNat = old at hc0
    have HW0 := Lib.hid hw0
    obtain ⟨v, hv⟩ : ∃ v, u / 16 ^ n = v := ⟨_, rfl⟩
    rw [hv]
    have hv64 : v < 18446744073709551616 := by have := Nat.div_le_self u (16 ^ n); omega
    have hv16 : 16 ≤ v → n ≤ 14 := fun h16 => by
      apply Classical.byContradiction; intro hn14
      have : n = 15 := by omega
      subst this
      have : u / 16 ^ 15 < 16 := by omega
      omega
    have HV := Lib.hid hv
    clear hHk hw0 hv
    by_cases h16 : 16 ≤ v
    · have hn14 := hv16 h16
      have hidx : ∀ W, (Instr.index 9 (.string Lib.digits36) (.int .u64 (bits .and .u64 (v : Int) 15))).run Tryd.prog W = .ok (.int .u8 ((hx (v % 16)).toNat : Int)) W := fun W => idx_digits .u64 _ (v % 16) (and15 v hv64) (by omega) W
      clear hv16
      go_wp2
      go_roundw
      case rel =>
        refine ⟨n + 1, m, dk.setIfInBounds m (hx (v % 16)), by omega, by omega, ?_, rfl, ?_, by simpa using hdk, Lib.hid (HI.out.step hdk m hnm v HV.out)⟩
        · rw [Nat.pow_succ, ← Nat.div_div_eq_div_mul, HV.out]; rfl
        · rw [HW0.out]
          have := store1_world W1 w.heap.size 0 dk 0 m (hx (v % 16)) (by omega)
          rw [Nat.zero_add] at this
          exact this
      case measure => simp [RowKit.intOf]
    · have hidx : ∀ W, (Instr.index 9 (.string Lib.digits36) (.int .u64 (v : Int))).run Tryd.prog W = .ok (.int .u8 ((hx (v % 16)).toNat : Int)) W := fun W => idx_digits .u64 _ (v % 16) (by omega) (by omega) W
      have hal : Tryd.prog.arrayLen 103 = 65 := by kernel_rfl
      have hsl : ∀ W, (Instr.sliceAt 103 (.pointer (some ⟨w.heap.size, 0, none⟩)) (some (.int .i64 (m : Int))) none none).run Tryd.prog W = .ok (.slice (some ⟨w.heap.size, m, none⟩) (n + 1) (n + 1)) W := fun W => by
        rw [run_sliceAt_array_l W 103 ⟨w.heap.size, 0, none⟩ (by simp [Program.arrayLen, Program.elem, Tryd.underlying103]) .i64 (m : Int) (by omega) (by rw [hal]; omega), hal]
        go_simp
        omega
      have hW2 : W0.setCell ⟨w.heap.size, m, none⟩ (.int .u8 ((hx (v % 16)).toNat : Int)) = putRow enc8 W1 w.heap.size 0 (dk.setIfInBounds m (hx (v % 16))) := by
        rw [HW0.out]
        have := store1_world W1 w.heap.size 0 dk 0 m (hx (v % 16)) (by omega)
        rw [Nat.zero_add] at this
        exact this
      have HI2 := Lib.hid (HI.out.step hdk m hnm v HV.out)
      have hcv : (convert 67 9 (.slice (some ⟨w.heap.size, m, none⟩) (n + 1) (n + 1))).run Tryd.prog (W0.setCell ⟨w.heap.size, m, none⟩ (.int .u8 ((hx (v % 16)).toNat : Int))) = .ok (.string ⟨(hexN (n + 1) u).toArray⟩) (W0.setCell ⟨w.heap.size, m, none⟩ (.int .u8 ((hx (v % 16)).toNat : Int))) := by
        rw [hW2]
        have h := run_convert_bytes_back (P := Tryd.prog) (putRow enc8 W1 w.heap.size 0 (dk.setIfInBounds m (hx (v % 16)))) 67 9 5 ⟨w.heap.size, m, none⟩ (n + 1) (hexN (n + 1) u) Tryd.underlying67 Tryd.underlying5 Tryd.underlying9 (fun j hj => by
          have hj2 : j < n + 1 := by rw [hexN_length] at hj; exact hj
          rw [Lib.add_plain, ← HI2.out.cells (by omega) j hj, show 65 - (n + 1) + j = m + j by omega]
          have := cell?_putRow enc8 W1 w.heap.size 0 _ (dk.setIfInBounds m (hx (v % 16))) HH0.out (by simp; omega) (m + j) (by simp; omega)
          rw [Nat.zero_add] at this
          exact this)
        rw [hexN_length] at h
        exact h
      have HG := Lib.hid (Lib.fin_at w (.cells (Array.replicate 65 (.int .u8 0)) 103) (dk.setIfInBounds m (hx (v % 16))) 0 0)
      have HW2 := Lib.hid hW2
      have hup : u < 16 ^ (n + 1) := by
        have h2 : u < 16 * 16 ^ n := (Nat.div_lt_iff_lt_mul (Nat.pow_pos (by decide))).1 (by rw [HV.out]; omega)
        rw [Nat.pow_succ, Nat.mul_comm]; exact h2
      have HUP := Lib.hid hup
      clear hv16 hW2 hup hal
      go_wp2
      go_ret2
      refine ⟨n, by omega, HUP.out, rfl, ?_⟩
      rw [HW2.out, HZ.out]
      obtain ⟨os, eo⟩ := HG.out
      have e2 : putRow enc8 (w.alloc (.cells (Array.replicate 65 (.int .u8 0)) 103)) w.heap.size 0 (dk.setIfInBounds m (hx (v % 16))) = grow (w.drewN 0) os := eo
      rw [e2]
      exact Lib.below_grow w.heap.size w (Nat.le_refl _) 0 os
theorem iformat16 (B u : Nat) (w : World) (hu : u < 18446744073709551616) (h : Tz B w) (hB : B ≤ w.heap.size) :
    Calls Tryd.prog 43 #[.int .u64 u, .int .i64 16] w fun e w' => ∃ n, n < 16 ∧ u < 16 ^ (n + 1) ∧ e = .returned (str (hexN (n + 1) u)) ∧ Below w.heap.size w w' := by
  have H := Lib.hid (formatBits16 B u w hu h hB)
  clear h
  go_enter Tryd.func43, Tryd.ntmps43
  go_wp2_with (go_at_call 60; refine H.out.mono ?_; rintro e w' ⟨n, h1, h2, rfl, hb⟩)
  go_ret
  exact ⟨n, h1, h2, rfl, hb⟩
theorem format16 (B u : Nat) (w : World) (hu : u < 18446744073709551616) (h : Tz B w) (hB : B ≤ w.heap.size) :
    Calls Tryd.prog 38 #[.int .u64 u, .int .i64 16] w fun e w' => ∃ n, n < 16 ∧ u < 16 ^ (n + 1) ∧ e = .returned (str (hexN (n + 1) u)) ∧ Below w.heap.size w w' := by
  have H := Lib.hid (iformat16 B u w hu h hB)
  clear h
  go_enter Tryd.func38, Tryd.ntmps38
  go_wp2_with (go_at_call 43; refine H.out.mono ?_; rintro e w' ⟨n, h1, h2, rfl, hb⟩)
  go_ret
  exact ⟨n, h1, h2, rfl, hb⟩
theorem repeat0 (c : Nat) (w : World) (hc : c ≤ 16) :
    Calls Tryd.prog 39 #[str [48], .int .i64 c] w fun e w' => e = .returned (str (List.replicate c 48)) ∧ Below w.heap.size w w' := by
  refine (Tryd.strings_Repeat ⟨[48].toArray⟩ c w (by omega) (by rw [str_size]; simp; omega)).mono ?_
  rintro e w' ⟨rfl, hb⟩
  refine ⟨?_, hb⟩
  have : Lib.repeatL ([48] : List UInt8) c = List.replicate c 48 := by
    rcases (show c = 0 ∨ c = 1 ∨ c = 2 ∨ c = 3 ∨ c = 4 ∨ c = 5 ∨ c = 6 ∨ c = 7 ∨ c = 8 ∨ c = 9 ∨ c = 10 ∨ c = 11 ∨ c = 12 ∨ c = 13 ∨ c = 14 ∨ c = 15 ∨ c = 16 by omega) with h | h | h | h | h | h | h | h | h | h | h | h | h | h | h | h | h <;> subst h <;> decide
  rw [← this]
theorem hex_any (B : Nat) (p : Int) (w : World) (h0 : 0 ≤ p) (h1 : p ≤ 18446744073709551615) (h : Tz B w) (hB : B ≤ w.heap.size) :
    Calls Tryd.prog 32 #[.int .u64 p] w fun e w' => e = .returned (str (hexL p)) ∧ Below w.heap.size w w' := by
  obtain ⟨u, rfl⟩ : ∃ u : Nat, p = u := ⟨p.toNat, by omega⟩
  have H := Lib.hid (format16 B u w (by omega) h hB)
  have HR := Lib.hid repeat0
  have HE : Hid (hexL (u : Int) = [48, 120] ++ hexN 16 u) := Lib.hid (by unfold hexL; rfl)
  clear h
  go_enter Tryd.func32, Tryd.ntmps32
  go_wp2_with (go_at_call 38; refine H.out.mono ?_; rintro e w1 ⟨n, hn, hup, rfl, hb⟩; refine Hid.out ?_)
  have HL : Hid (hexN 16 u = List.replicate (15 - n) 48 ++ hexN (n + 1) u) := Lib.hid (by
    have := hexN_pad (15 - n) (n + 1) u hup
    rw [show 15 - n + (n + 1) = 16 by omega] at this
    exact this)
  have hsz : (⟨(hexN (n + 1) u).toArray⟩ : ByteArray).size = n + 1 := by rw [str_size, hexN_length]
  have hln : (hexN (n + 1) u).length = n + 1 := hexN_length _ _
  have hlr : (List.replicate (15 - n) (48 : UInt8)).length = 15 - n := by simp
  have h16 : (16 : Int) - ((n + 1 : Nat) : Int) = ((15 - n : Nat) : Int) := by omega
  have h162 : (16 : Int) - ((n : Int) + 1) = ((15 - n : Nat) : Int) := by omega
  have HR2 := Lib.hid (fun w => HR.out (15 - n) w (by omega))
  clear hup HR
  generalize hexN (n + 1) u = l at *
  generalize List.replicate (15 - n) (48 : UInt8) = l2 at *
  refine Lib.hid ?_
  go_wp2_with (go_at_call 39; go_must (refine (HR2.out _).mono ?_); rintro e w2 ⟨rfl, hb2⟩)
  have e : (⟨#[48, 120]⟩ ++ ⟨l2.toArray⟩ ++ ⟨l.toArray⟩ : ByteArray) = ⟨(hexL (u : Int)).toArray⟩ := by
    rw [HE.out, HL.out, show (⟨#[48, 120]⟩ : ByteArray) = ⟨[48, 120].toArray⟩ from rfl, ba_app, ba_app, List.append_assoc]
  go_ret
  exact ⟨congrArg (fun x => Ending.returned (Value.string x)) e, hb.trans (hb2.mono hb.size)⟩
theorem text_hex (B : Nat) (p : Int) (w : World) (h0 : 0 ≤ p) (h1 : p ≤ 18446744073709551615) (hp : p ≠ 0) (hf : ¬ Formed p) (h : Tz B w) (hB : B ≤ w.heap.size) :
    Calls Tryd.prog 27 #[.int .u64 p] w fun e w' => e = .returned (str (hexL p)) ∧ Below w.heap.size w w' := by
  have HW := Lib.hid (wf_any p w h0 h1)
  rw [show decide (Formed p) = false by simpa using hf] at HW
  have HN := Lib.hid (nil_any p w)
  rw [show decide (p = 0) = false by simpa using hp] at HN
  have HX := Lib.hid (hex_any B p w h0 h1 h hB)
  clear h hf hp
  go_enter Tryd.func27, Tryd.ntmps27
  go_wp2_with (first
    | (go_at_call 14; refine HN.out.mono ?_; rintro e w' ⟨rfl, hw⟩; have hw2 := hw.symm; clear hw; subst hw2)
    | (go_at_call 31; refine HW.out.mono ?_; rintro e w' ⟨rfl, hw⟩; have hw2 := hw.symm; clear hw; subst hw2)
    | (go_at_call 32; refine HX.out.mono ?_; rintro e w' ⟨rfl, hb⟩))
  go_ret
  exact ⟨rfl, hb⟩
end Go.Proofs.YtkngmanfekcjmaaDoor.Base
