/-
  CONTRACTS AND SMALL LAWS FOR THE IMAGE'S SEAT: strings as lists of bytes; the library's tables; strconv.Itoa.
-/
import Derived.Test.YtnhddgmegnehaaaDoorRows
import Derived.Test.YtnhddgmegnehaaaDoorShelf
import Derived.Test.YtnhddgmegnehaaaDoorArgs
import Derived.Test.YtnhddgmegnehaaaDoorOwn
import Derived.Test.YtnhddgmegnehaaaDoorLaw
import Derived.Test.YtnhddgmegnehaaaDoorPackMath
import Derived.Lib.AppendIntMem
import Derived.Lib.ItoaMem
import Derived.Lib.ItoaLen
import Derived.Lib.Walk
import Derived.WalkKit
import Derived.IntWalk
import Derived.ProofKit
import Derived.OpenShut
import Derived.Deep.QuietTactic
import Derived.Deep.RegionHeld3
import Derived.Deep.DeepMust
import Derived.BigQuiet
import Derived.Handy
import Derived.Laws.Externs
import Derived.Lib.Hide
import Derived.Shelf.Strings.MapGrows
set_option linter.unusedVariables false
set_option linter.unusedSimpArgs false
namespace Go.Proofs.YtnhddgmegnehaaaDoor.Base
open Go.ChangeShapes Go.WideShapes Go.ChangeAt Go.RowKit Go.Sort Go.Lib
theorem wf_i64 {a : Int} (h : (Lit.int .i64 a).wf = true) : -9223372036854775808 ≤ a ∧ a ≤ 9223372036854775807 := by
  simpa [Lit.wf, IntKind.min, IntKind.max, IntKind.bits, IntKind.signed] using h
theorem wf_i32 {a : Int} (h : (Lit.int .i32 a).wf = true) : -2147483648 ≤ a ∧ a ≤ 2147483647 := by
  simpa [Lit.wf, IntKind.min, IntKind.max, IntKind.bits, IntKind.signed] using h
theorem wf_u64 {a : Int} (h : (Lit.int .u64 a).wf = true) : 0 ≤ a ∧ a ≤ 18446744073709551615 := by
  simpa [Lit.wf, IntKind.min, IntKind.max, IntKind.bits, IntKind.signed] using h
theorem wf_u16 {a : Int} (h : (Lit.int .u16 a).wf = true) : 0 ≤ a ∧ a ≤ 65535 := by
  simpa [Lit.wf, IntKind.min, IntKind.max, IntKind.bits, IntKind.signed] using h
theorem wf_u8 {a : Int} (h : (Lit.int .u8 a).wf = true) : 0 ≤ a ∧ a ≤ 255 := by
  simpa [Lit.wf, IntKind.min, IntKind.max, IntKind.bits, IntKind.signed] using h
theorem ret_bool {a b : Bool} (h : a = b) : Ending.returned (.bool a) = .returned (.bool b) := by rw [h]
theorem ret_int {k : IntKind} {a b : Int} (h : a = b) : Ending.returned (.int k a) = .returned (.int k b) := by rw [h]
/-- the table of the powers of ten, as it is laid, whatever is done from block B on. -/
def Pow (B : Nat) (w : World) : Prop := Lib.TabBelow Tryd.prog B w "internal/strconv.uint64pow10" .u64 Lib.pow10Tab
theorem Pow.on {B : Nat} {w w' : World} (h : Pow B w) (hb : Below B w w') : Pow B w' := Lib.TabBelow.on h hb
abbrev str (l : List UInt8) : Value := .string ⟨l.toArray⟩
theorem dec_len (n : Nat) (h : n < 18446744073709551616) : (Lib.decDigits n).length ≤ 20 := by
  rw [Lib.decDigits_length]
  rcases Nat.eq_zero_or_pos n with rfl | h1
  · decide +kernel
  · have := Lib.numDigits_eq n h1 h; split at this <;> omega
theorem ba_app (a b : List UInt8) : (⟨a.toArray⟩ : ByteArray) ++ ⟨b.toArray⟩ = ⟨(a ++ b).toArray⟩ := by
  apply ByteArray.ext; simp
theorem str_size (l : List UInt8) : (⟨l.toArray⟩ : ByteArray).size = l.length := by simp [ByteArray.size]
theorem idx_str (l : List UInt8) (i : Nat) (hi : i < l.length) (w : World) :
    (Instr.index 9 (.string ⟨l.toArray⟩) (.int .i64 (i : Int))).run Tryd.prog w = .ok (.int .u8 ((l.getD i 0).toNat : Int)) w := by
  rw [run_index_string w 9 ⟨l.toArray⟩ .i64 _ Tryd.underlying9, dif_pos ⟨by omega, by rw [str_size]; omega⟩]
  have e : ((i : Int)).toNat = i := by omega
  simp only [e]
  rw [Lib.getD_at ⟨l.toArray⟩ i (by rw [str_size]; exact hi)]
theorem ba_of (x : ByteArray) (l : List UInt8) (h : x.data.toList = l) : x = ⟨l.toArray⟩ := by
  obtain ⟨⟨y⟩⟩ := x
  simp at h
  rw [h]
theorem slice_str (l : List UInt8) (i : Nat) (hi : i ≤ l.length) (w : World) :
    (Instr.slice 9 (.string ⟨l.toArray⟩) (some (.int .i64 (i : Int))) none none).run Tryd.prog w = .ok (.string ⟨(l.drop i).toArray⟩) w := by
  have hs := str_size l
  have h1 : (0 : Int) ≤ (i : Int) := by omega
  have h2 : (i : Int) ≤ ((⟨l.toArray⟩ : ByteArray).size : Int) := by omega
  have := run_slice_string_l (P := Tryd.prog) (w := w) (t := 9) (s := ⟨l.toArray⟩) Tryd.underlying9 .i64 (i : Int) h1 h2
  rw [this]
  have e : ((i : Int)).toNat = i := by omega
  rw [e, ba_of ((⟨l.toArray⟩ : ByteArray).extract i (⟨l.toArray⟩ : ByteArray).size) (l.drop i) (by rw [Lib.extract_data, hs]; simp [List.take_of_length_le])]
theorem slice_lo (l : List UInt8) (i : Int) (n : Nat) (hn : i = (n : Int)) (hi : n ≤ l.length) (w : World) :
    (Instr.slice 9 (.string ⟨l.toArray⟩) (some (.int .i64 i)) none none).run Tryd.prog w = .ok (.string ⟨(l.drop n).toArray⟩) w := by
  subst hn; exact slice_str l n hi w
theorem slice_lo_u (l : List UInt8) (n : Nat) (hi : n ≤ l.length) (w : World) :
    (Instr.slice 9 (.string ⟨l.toArray⟩) (some (.int .u64 (n : Int))) none none).run Tryd.prog w = .ok (.string ⟨(l.drop n).toArray⟩) w := by
  have hs := str_size l
  have h1 : (0 : Int) ≤ (n : Int) := by omega
  have h2 : (n : Int) ≤ ((⟨l.toArray⟩ : ByteArray).size : Int) := by omega
  have := run_slice_string_l (P := Tryd.prog) (w := w) (t := 9) (s := ⟨l.toArray⟩) Tryd.underlying9 .u64 (n : Int) h1 h2
  rw [this]
  have e : ((n : Int)).toNat = n := by omega
  rw [e, ba_of ((⟨l.toArray⟩ : ByteArray).extract n (⟨l.toArray⟩ : ByteArray).size) (l.drop n) (by rw [Lib.extract_data, hs]; simp [List.take_of_length_le])]
theorem slice_hi (k : IntKind) (l : List UInt8) (n : Nat) (hi : n ≤ l.length) (w : World) :
    (Instr.slice 9 (.string ⟨l.toArray⟩) none (some (.int k (n : Int))) none).run Tryd.prog w = .ok (.string ⟨(l.take n).toArray⟩) w := by
  have hs := str_size l
  have := run_slice_string_h (P := Tryd.prog) (w := w) (t := 9) (s := ⟨l.toArray⟩) Tryd.underlying9 k (n : Int) (by omega) (by omega)
  rw [this]
  have e : ((n : Int)).toNat = n := by omega
  rw [e, ba_of ((⟨l.toArray⟩ : ByteArray).extract 0 n) (l.take n) (by rw [Lib.extract_data]; simp)]
theorem slice_two (l : List UInt8) (i j : Nat) (hij : i ≤ j) (hj : j ≤ l.length) (w : World) :
    (Instr.slice 9 (.string ⟨l.toArray⟩) (some (.int .i64 (i : Int))) (some (.int .i64 (j : Int))) none).run Tryd.prog w = .ok (.string ⟨((l.drop i).take (j - i)).toArray⟩) w := by
  rw [run_slice_string w 9 ⟨l.toArray⟩ .i64 .i64 _ _ Tryd.underlying9 (by omega) (by omega) (by rw [str_size]; omega), show ((i : Int)).toNat = i by omega, show ((j : Int)).toNat = j by omega]
  rw [ba_of ((⟨l.toArray⟩ : ByteArray).extract i j) ((l.drop i).take (j - i)) (by rw [Lib.extract_data])]
/-- strconv.Itoa at a number that is not negative. -/
theorem itoa_any (B n : Nat) (w : World) (hn : n < 9223372036854775808) (htab : Pow B w) :
    Calls Tryd.prog 47 #[.int .i64 (n : Int)] w fun e w' => e = .returned (str (Lib.decDigits n)) ∧ Below w.heap.size w w' := by
  refine (Tryd.strconv_Itoa (n : Int) (by omega) (by omega) w (Lib.TabBelow.here htab)).mono ?_
  rintro e w' ⟨rfl, k, os, rfl⟩
  rw [Lib.itoa_nonneg]
  exact ⟨rfl, Lib.below_grow w.heap.size w (Nat.le_refl _) k os⟩
end Go.Proofs.YtnhddgmegnehaaaDoor.Base
