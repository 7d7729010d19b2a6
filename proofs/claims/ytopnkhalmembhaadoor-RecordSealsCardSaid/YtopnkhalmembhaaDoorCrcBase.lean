/-
  CONTRACTS OF PACKAGE crc's AND THE REFERENCE's BYTE-WISE FUNCTIONS, in a world whose two tables hold their sixteen numbers.
-/
import Derived.Test.YtopnkhalmembhaaDoorRows
import Derived.Test.YtopnkhalmembhaaDoorCrcMath
import Derived.Test.YtopnkhalmembhaaDoorLaw
import Derived.Test.YtopnkhalmembhaaDoorArgs
import Derived.IntWalk
import Derived.BigQuiet
import Derived.Handy
import Derived.Lib.SlBytesConst
set_option linter.unusedVariables false
set_option linter.unusedSimpArgs false
namespace Go.Proofs.YtopnkhalmembhaaDoor.Base
open Go.ChangeShapes Go.WideShapes Go.ChangeAt Go.RowKit Go.Proofs.YtopnkhalmembhaaDoor.CrcMath Go.Proofs.YtopnkhalmembhaaDoor.Law Go.Proofs.YtopnkhalmembhaaDoor.Args

theorem ret_bool {a b : Bool} (h : a = b) : Ending.returned (.bool a) = .returned (.bool b) := by rw [h]
theorem ret_int {k : IntKind} {a b : Int} (h : a = b) : Ending.returned (.int k a) = .returned (.int k b) := by rw [h]
theorem val_int {k : IntKind} {a b : Int} (h : a = b) : Value.int k a = Value.int k b := by rw [h]
theorem wf_i64 {a : Int} (h : (Lit.int .i64 a).wf = true) : -9223372036854775808 ≤ a ∧ a ≤ 9223372036854775807 := by
  simpa [Lit.wf, IntKind.min, IntKind.max, IntKind.bits, IntKind.signed] using h
theorem wf_u64 {a : Int} (h : (Lit.int .u64 a).wf = true) : 0 ≤ a ∧ a ≤ 18446744073709551615 := by
  simpa [Lit.wf, IntKind.min, IntKind.max, IntKind.bits, IntKind.signed] using h
theorem wf_u32 {a : Int} (h : (Lit.int .u32 a).wf = true) : 0 ≤ a ∧ a ≤ 4294967295 := by
  simpa [Lit.wf, IntKind.min, IntKind.max, IntKind.bits, IntKind.signed] using h
theorem wf_u8 {a : Int} (h : (Lit.int .u8 a).wf = true) : 0 ≤ a ∧ a ≤ 255 := by
  simpa [Lit.wf, IntKind.min, IntKind.max, IntKind.bits, IntKind.signed] using h

/-- THE TWO TABLES LIE IN THE WORLD. -/
def Tab (w : World) : Prop := ∀ i, i < 16 → w.cell? ⟨0, i, none⟩ = some (.int .u32 (lowL.getD i 0)) ∧ w.cell? ⟨1, i, none⟩ = some (.int .u32 (highL.getD i 0))
theorem Tab.drewN {w : World} (h : Tab w) (n : Nat) : Tab (w.drewN n) := h
theorem Tab.below {w w' : World} (h : Tab w) (hb : Below w.heap.size w w') : Tab w' := fun i hi => by
  have h0 := h i hi
  exact ⟨(hb.cell (p := ⟨_, i, none⟩) (cell_lt h0.1)).trans h0.1, (hb.cell (p := ⟨_, i, none⟩) (cell_lt h0.2)).trans h0.2⟩

theorem shiftByte_any (r b : Nat) (w : World) (hr : r < 4294967296) (hb : b < 256) (ht : Hid (Tab w)) :
    Calls Tryd.prog 17 #[.int .u32 (r : Int), .int .u8 (b : Int)] w fun e w' => e = .returned (.int .u32 ((sb r b : Nat) : Int)) ∧ ∃ n, w' = w.drewN n := by
  obtain ⟨q, hq⟩ : ∃ q, r ^^^ b = q := ⟨_, rfl⟩
  have hql : q < 4294967296 := by rw [← hq]; exact xor_lt 32 hr (by omega)
  have e1 : bits .xor .u32 (r : Int) (b : Int) = (q : Int) := by rw [u32_xor_nat _ _ hr (by omega), hq]
  have e2 : bits .and .u32 (q : Int) 15 = ((q % 16 : Nat) : Int) := by
    rw [show (15 : Int) = ((2 ^ 4 - 1 : Nat) : Int) from rfl, u32_and_nat _ _ hql (by omega), Nat.and_two_pow_sub_one_eq_mod]
  have e3 : bits .and .u32 ((q : Int) / 16) 15 = ((q / 16 % 16 : Nat) : Int) := by
    rw [show (15 : Int) = ((2 ^ 4 - 1 : Nat) : Int) from rfl, show (q : Int) / 16 = ((q / 16 : Nat) : Int) from by omega, u32_and_nat _ _ (by omega) (by omega), Nat.and_two_pow_sub_one_eq_mod]
  obtain ⟨i, hi⟩ : ∃ i, q % 16 = i := ⟨_, rfl⟩
  obtain ⟨j, hj⟩ : ∃ j, q / 16 % 16 = j := ⟨_, rfl⟩
  have hi16 : i < 16 := by omega
  have hj16 : j < 16 := by omega
  rw [hi] at e2
  rw [hj] at e3
  have c0 := (ht.out i hi16).1
  have c1 := (ht.out j hj16).2
  rw [low_tab i hi16] at c0
  rw [high_tab j hj16] at c1
  have hl0 := Tn_lt 8 (r := i) (by omega)
  have hl1 := Tn_lt 8 (r := 16 * j) (by omega)
  have E : Hid (bits .xor .u32 (bits .xor .u32 ((q : Int) / 256) ((Tn 8 i : Nat) : Int)) ((Tn 8 (16 * j) : Nat) : Int) = ((sb r b : Nat) : Int)) := by
    apply Lib.hid
    unfold sb
    rw [hq, byte_tab q, hi, hj, show (q : Int) / 256 = ((q / 256 : Nat) : Int) from by omega, u32_xor_nat _ _ (by omega) hl0, u32_xor_nat _ _ (xor_lt 32 (by omega) hl0) hl1]
  clear hq hi hj
  go_enter Tryd.func17, Tryd.ntmps17
  go_wp2
  go_quiet (fail)
  go_wp2
  go_ret
  exact ⟨ret_int E.out, _, rfl⟩

/-- The bytes of a slice as numbers below 256. -/
theorem byte_at {zs : List Int} (hw : ∀ z ∈ zs, (Lit.int .u8 z).wf = true) {k : Nat} (h : k < zs.length) : ∃ b : Nat, b < 256 ∧ zs.getD k 0 = (b : Int) := by
  have := wf_u8 (wf_at hw h)
  exact ⟨(zs.getD k 0).toNat, by omega, by omega⟩
theorem bytes_range {zs : List Int} (hw : ∀ z ∈ zs, (Lit.int .u8 z).wf = true) : ∀ z ∈ zs, 0 ≤ z ∧ z ≤ 255 := fun z hz => wf_u8 (hw z hz)
theorem not32 (c : Nat) (hc : c < 4294967296) : bits .xor .u32 IntKind.u32.max (c : Int) = ((4294967295 - c : Nat) : Int) := by
  rw [show IntKind.u32.max = ((4294967295 : Nat) : Int) from rfl, u32_xor_nat _ _ (by omega) hc]
  have h : (BitVec.allOnes 32 ^^^ BitVec.ofNat 32 c).toNat = 4294967295 - c := by
    rw [BitVec.allOnes_xor, BitVec.toNat_not, BitVec.toNat_ofNat, Nat.mod_eq_of_lt hc]
  rw [BitVec.toNat_xor, BitVec.toNat_ofNat, Nat.mod_eq_of_lt hc] at h
  exact congrArg Int.ofNat h
/-! ### the reference -/
/-! ### Cut, awake -/
end Go.Proofs.YtopnkhalmembhaaDoor.Base
