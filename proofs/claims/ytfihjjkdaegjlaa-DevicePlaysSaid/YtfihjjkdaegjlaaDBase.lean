/-
  DEVICE, THE SMALL FUNCTIONS OF A LINE: place, lineOf, end. What each returns; the world stays.
-/
import Derived.Test.YtfihjjkdaegjlaaRows
import Derived.Test.YtfihjjkdaegjlaaBlk
import Derived.IntWalk
import Derived.OpenShut
import Derived.Deep.QuietTactic
import Derived.BigQuiet
import Derived.Handy
import Derived.StillTailTactics
import Derived.Deep.MidRow
import Derived.Deep.RegionHeld3
import Derived.RegionTactic
import Derived.WalkSpells
namespace Go.Proofs.Ytfihjjkdaegjlaa.Dev
open Go.ChangeShapes Go.WideShapes Go.ChangeAt Go.RowKit Go.Proofs.Ytfihjjkdaegjlaa.Mem
theorem ret_int {k : IntKind} {a b : Int} (h : a = b) : Ending.returned (.int k a) = .returned (.int k b) := by rw [h]
theorem ret_bool {a b : Bool} (h : a = b) : Ending.returned (.bool a) = .returned (.bool b) := by rw [h]
theorem place_any (o : Nat) (w : World) (ho : o < 18446744073709551616) : Calls Try.prog 72 #[.int .u64 (o : Int)] w fun e w' => e = .returned (.int .u64 ((o / 8 % 8 : Nat) : Int)) ∧ w = w' := by
  go_enter Try.func72, Try.ntmps72
  go_wp2
  go_ret
  exact ⟨ret_int (by simp), rfl⟩
theorem lineOf_any (d lb n k c : Nat) (w : World) (hc : w.cell? ⟨d, 0, none⟩ = some (.slice (some ⟨lb, 0, none⟩) n c)) (o : Nat) (ho : o < 18446744073709551616) (hk : o / 64 = k) (hkn : k < n) (hn : n ≤ 4096) :
    Calls Try.prog 60 #[.pointer (some ⟨d, 0, none⟩), .int .u64 (o : Int)] w fun e w' => e = .returned (.pointer (some ⟨lb, k * 18, none⟩)) ∧ w = w' := by
  have hd : (o : Int) / 64 = (k : Int) := by omega
  have HK := Lib.hid hk
  clear hk
  go_enter Try.func60, Try.ntmps60
  go_wp2
  go_ret
  exact ⟨rfl, rfl⟩
theorem end_any (lb q n c g : Nat) (A : Option Addr) (w : World) (hh : w.cell? ⟨lb, q + 16, none⟩ = some (.slice A n c)) (hg : w.cell? ⟨lb, q + 17, none⟩ = some (.int .u64 (g : Int))) (hb : g + n < 4294967296) :
    Calls Try.prog 62 #[.pointer (some ⟨lb, q, none⟩)] w fun e w' => e = .returned (.int .u64 ((g + n : Nat) : Int)) ∧ ∃ j, w' = w.drewN j := by
  go_enter Try.func62, Try.ntmps62
  go_wp2
  go_quiet (fail)
  go_wp2
  go_ret
  exact ⟨ret_int (by simp), _, rfl⟩
end Go.Proofs.Ytfihjjkdaegjlaa.Dev
