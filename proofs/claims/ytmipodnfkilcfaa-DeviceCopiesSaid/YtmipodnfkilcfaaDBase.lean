/-
  DEVICE, THE SMALL FUNCTIONS OF A LINE: place, lineOf, end. What each returns; the world stays.
-/
import Derived.Test.YtmipodnfkilcfaaRows
import Derived.Test.YtmipodnfkilcfaaBlk
import Derived.IntWalk
import Derived.OpenShut
import Derived.Deep.QuietTactic
import Derived.BigQuiet
import Derived.Handy
import Derived.StillTailTactics
import Derived.Deep.MidRow
import Derived.Deep.RegionHeld3
import Derived.RegionTactic
import Derived.WalkSpells
set_option linter.unusedVariables false
set_option linter.unusedSimpArgs false
namespace Go.Proofs.Ytmipodnfkilcfaa.Dev
open Go.ChangeShapes Go.WideShapes Go.ChangeAt Go.RowKit Go.Proofs.Ytmipodnfkilcfaa.Mem
theorem ret_int {k : IntKind} {a b : Int} (h : a = b) : Ending.returned (.int k a) = .returned (.int k b) := by rw [h]
theorem ret_bool {a b : Bool} (h : a = b) : Ending.returned (.bool a) = .returned (.bool b) := by rw [h]
theorem place_any (o : Nat) (w : World) (ho : o < 18446744073709551616) : Calls Try.prog 55 #[.int .u64 (o : Int)] w fun e w' => e = .returned (.int .u64 ((o / 8 % 8 : Nat) : Int)) ∧ w = w' := by
  go_enter Try.func55, Try.ntmps55
  go_wp2
  go_ret
  exact ⟨ret_int (by simp), rfl⟩
theorem lineOf_any (d lb n k c : Nat) (w : World) (hc : w.cell? ⟨d, 0, none⟩ = some (.slice (some ⟨lb, 0, none⟩) n c)) (o : Nat) (ho : o < 18446744073709551616) (hk : o / 64 = k) (hkn : k < n) (hn : n ≤ 4096) :
    Calls Try.prog 50 #[.pointer (some ⟨d, 0, none⟩), .int .u64 (o : Int)] w fun e w' => e = .returned (.pointer (some ⟨lb, k * 18, none⟩)) ∧ w = w' := by
  have hd : (o : Int) / 64 = (k : Int) := by omega
  have HK := Lib.hid hk
  clear hk
  go_enter Try.func50, Try.ntmps50
  go_wp2
  go_ret
  exact ⟨rfl, rfl⟩
theorem end_any (lb q n c g : Nat) (A : Option Addr) (w : World) (hh : w.cell? ⟨lb, q + 16, none⟩ = some (.slice A n c)) (hg : w.cell? ⟨lb, q + 17, none⟩ = some (.int .u64 (g : Int))) (hb : g + n < 4294967296) :
    Calls Try.prog 64 #[.pointer (some ⟨lb, q, none⟩)] w fun e w' => e = .returned (.int .u64 ((g + n : Nat) : Int)) ∧ ∃ j, w' = w.drewN j := by
  go_enter Try.func64, Try.ntmps64
  go_wp2
  go_quiet (fail)
  go_wp2
  go_ret
  exact ⟨ret_int (by simp), _, rfl⟩
end Go.Proofs.Ytmipodnfkilcfaa.Dev
