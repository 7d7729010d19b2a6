/-
  THE CHECKSUM OF THREE BYTE STRINGS' SUM MODULO 2; min of four numbers.
-/
import Derived.Test.YtopnkhalmembhaaDoorCrcOwn
import Derived.Test.YtopnkhalmembhaaDoorMulMath
import Derived.StillTailTactics
import Derived.RegionTactic
import Derived.Deep.RegionHeld3
set_option linter.unusedVariables false
set_option linter.unusedSimpArgs false
namespace Go.Proofs.YtopnkhalmembhaaDoor.CrcMath
/-- Byte i of the sum. -/
def xb (xs ys zs : List Int) (i : Nat) : Nat := ((xs.getD i 0).toNat ^^^ (ys.getD i 0).toNat) ^^^ (zs.getD i 0).toNat
def xr (xs ys zs : List Int) (n : Nat) : List Int := (List.range n).map fun i => (xb xs ys zs i : Int)
theorem xr_len (xs ys zs : List Int) (n : Nat) : (xr xs ys zs n).length = n := by simp [xr]
theorem xr_zero (xs ys zs : List Int) : xr xs ys zs 0 = [] := rfl
theorem xr_succ (xs ys zs : List Int) (k : Nat) : xr xs ys zs (k + 1) = xr xs ys zs k ++ [(xb xs ys zs k : Int)] := by
  unfold xr; rw [List.range_succ, List.map_append]; rfl
/-- the row after k stores, k ≤ n. -/
def xto (xs ys zs : List Int) (n k : Nat) : List Int := xr xs ys zs k ++ List.replicate (n - k) 0
theorem xto_len (xs ys zs : List Int) (n k : Nat) (h : k ≤ n) : (xto xs ys zs n k).length = n := by unfold xto; rw [List.length_append, xr_len, List.length_replicate]; omega
theorem xto_zero (xs ys zs : List Int) (n : Nat) : xto xs ys zs n 0 = List.replicate n 0 := by simp [xto, xr_zero]
theorem xto_full (xs ys zs : List Int) (n : Nat) : xto xs ys zs n n = xr xs ys zs n := by simp [xto]
theorem xto_step (xs ys zs : List Int) (n k : Nat) (h : k < n) : (xto xs ys zs n k).set k (xb xs ys zs k) = xto xs ys zs n (k + 1) := by
  unfold xto
  obtain ⟨m, rfl⟩ : ∃ m, n = k + m + 1 := ⟨n - k - 1, by omega⟩
  rw [show k + m + 1 - k = m + 1 by omega, show k + m + 1 - (k + 1) = m by omega, List.replicate_succ, xr_succ, List.set_append_right _ _ (by rw [xr_len]; omega), xr_len, Nat.sub_self, List.set_cons_zero, List.append_assoc]
  rfl
theorem xor6 (a b c d e f : Nat) : ((a ^^^ b) ^^^ c) ^^^ ((d ^^^ e) ^^^ f) = ((a ^^^ d) ^^^ (b ^^^ e)) ^^^ (c ^^^ f) := by rw [xor4, xor4 a b d e]
theorem upd_three (r : Nat) (xs ys zs : List Int) (n : Nat) (hx : xs.length = n) (hy : ys.length = n) (hz : zs.length = n) :
    ∀ k, k ≤ n → upd r (xr xs ys zs k) = (upd r (xs.take k) ^^^ upd r (ys.take k)) ^^^ upd r (zs.take k) := by
  intro k
  induction k with
  | zero => intro _; simp [xr_zero, upd]
  | succ k ih =>
    intro hk
    rw [xr_succ, upd_append, ih (by omega), upd_snoc r xs k (by omega), upd_snoc r ys k (by omega), upd_snoc r zs k (by omega)]
    show sb _ ((xb xs ys zs k : Int)).toNat = _
    unfold sb xb
    rw [Int.toNat_natCast, xor6, Tn_xor, Tn_xor]
theorem linear (xs ys zs : List Int) (n : Nat) (hx : xs.length = n) (hy : ys.length = n) (hz : zs.length = n) (bx : ∀ z ∈ xs, 0 ≤ z ∧ z ≤ 255) (by' : ∀ z ∈ ys, 0 ≤ z ∧ z ≤ 255) (bz : ∀ z ∈ zs, 0 ≤ z ∧ z ≤ 255) :
    (crcN 0 xs ^^^ crcN 0 ys) ^^^ crcN 0 zs = crcN 0 (xr xs ys zs n) := by
  have h := upd_three 4294967295 xs ys zs n hx hy hz n (Nat.le_refl _)
  rw [List.take_of_length_le (by omega), List.take_of_length_le (by omega), List.take_of_length_le (by omega)] at h
  have lx := upd_lt xs (r := 4294967295) (by omega) bx
  have ly := upd_lt ys (r := 4294967295) (by omega) by'
  have lz := upd_lt zs (r := 4294967295) (by omega) bz
  unfold crcN
  rw [Nat.sub_zero, h]
  generalize upd 4294967295 xs = a at *
  generalize upd 4294967295 ys = b at *
  generalize upd 4294967295 zs = c at *
  rw [not_as_xor a lx, not_as_xor b ly, not_as_xor c lz, not_as_xor _ (xor_lt 32 (xor_lt 32 lx ly) lz), xor4 4294967295 a 4294967295 b, Nat.xor_self, Nat.zero_xor]
  rw [← Nat.xor_assoc, Nat.xor_comm (a ^^^ b) 4294967295, Nat.xor_assoc]
theorem xb_lt (xs ys zs : List Int) (i : Nat) {x y z : Nat} (hx : x < 256) (hy : y < 256) (hz : z < 256) (ex : xs.getD i 0 = (x : Int)) (ey : ys.getD i 0 = (y : Int)) (ez : zs.getD i 0 = (z : Int)) : xb xs ys zs i = (x ^^^ y) ^^^ z := by
  unfold xb; rw [ex, ey, ez]; rfl
end Go.Proofs.YtopnkhalmembhaaDoor.CrcMath
namespace Go.Proofs.YtopnkhalmembhaaDoor.Base
open Go.RowKit Go.Proofs.YtopnkhalmembhaaDoor.Args
theorem run_min4 {P : Program} {w : World} (ts : Array TypeId) (t : TypeId) (x y z u n : Nat) (h : min (min (min x y) z) u = n) : (Builtin.min_ ts t #[.int .i64 x, .int .i64 y, .int .i64 z, .int .i64 u]).run P w = .ok (.int .i64 (n : Int)) w := by
  subst h
  simp [Builtin.min_, Builtin.min2]
  (repeat' split) <;> omega
theorem byte_wf {z : Nat} (h : z < 256) : (Lit.int .u8 (z : Int)).wf = true := by
  simp [Lit.wf, IntKind.min, IntKind.max, IntKind.bits, IntKind.signed]; omega
theorem getD_small {xs : List Int} (h : ∀ z ∈ xs, (Lit.int .u8 z).wf = true) (i : Nat) : (xs.getD i 0).toNat < 256 := by
  rcases Nat.lt_or_ge i xs.length with hi | hi
  · obtain ⟨b, hb, e⟩ := byte_at h hi
    rw [e]; simpa using hb
  · simp [List.getD, List.getElem?_eq_none hi]
theorem xr_wf {xs ys zs : List Int} (hx : ∀ z ∈ xs, (Lit.int .u8 z).wf = true) (hy : ∀ z ∈ ys, (Lit.int .u8 z).wf = true) (hz : ∀ z ∈ zs, (Lit.int .u8 z).wf = true) (n : Nat) : ∀ z ∈ CrcMath.xr xs ys zs n, (Lit.int .u8 z).wf = true := by
  intro z h
  obtain ⟨i, _, rfl⟩ := List.mem_map.1 h
  exact byte_wf (CrcMath.xor_lt 8 (CrcMath.xor_lt 8 (getD_small hx i) (getD_small hy i)) (getD_small hz i))
theorem held_on {A B w w' : World} (h : Below A.heap.size A w ∧ Below B.heap.size B w) (hb : Below w.heap.size w w') : Below A.heap.size A w' ∧ Below B.heap.size B w' :=
  ⟨h.1.trans (hb.mono h.1.size), h.2.trans (hb.mono h.2.size)⟩
theorem held_draws {A B w : World} (h : Below A.heap.size A w ∧ Below B.heap.size B w) (n : Nat) : Below A.heap.size A (w.drewN n) ∧ Below B.heap.size B (w.drewN n) :=
  ⟨Law.below_draws h.1 n, Law.below_draws h.2 n⟩
end Go.Proofs.YtopnkhalmembhaaDoor.Base
