/-
  CONTRACT: the laws' 'same', and the byte's row of the type table.
-/
import Derived.Test.YtehojhgpgliemaaDoorCrcBase
import Derived.Test.YtehojhgpgliemaaDoorOwn
namespace Go.Proofs.YtehojhgpgliemaaDoor.Base
open Go.ChangeShapes Go.WideShapes Go.ChangeAt Go.RowKit Go.Proofs.YtehojhgpgliemaaDoor.CrcMath Go.Proofs.YtehojhgpgliemaaDoor.Law Go.Proofs.YtehojhgpgliemaaDoor.Args Go.Proofs.YtehojhgpgliemaaDoor.Own
theorem info8 : (Tryd.prog.info? 5).map (fun i => (i.zero, i.size, i.bytes)) = some (some (.int .u8 0), 1, 1) := by kernel_rfl
theorem cut_to (A : Option Addr) (n c m r : Nat) (M : Int) (hM : M = (m : Int)) (hr : min n m = r) (w : World) (hn : n ≤ c) (hc : c ≤ 9223372036854775807) (hm : m ≤ 9223372036854775807) :
    Calls Tryd.prog 13 #[.slice A n c, .int .i64 M] w fun e w' => e = .returned (.slice A r c) ∧ w = w' := by
  subst hM hr; exact cut_any A n c m w hn hc hm
theorem same_any (A : Option Addr) (n c B : Nat) (zs : List Int) (A' : Option Addr) (n' c' B' : Nat) (zs' : List Int) (w : World) (hl : zs.length = n) (hl' : zs'.length = n') (hr : Hid (IntsAt .u8 w B A zs)) (hr' : Hid (IntsAt .u8 w B' A' zs'))
    (hw : Hid (∀ z ∈ zs, (Lit.int .u8 z).wf = true)) (hw' : Hid (∀ z ∈ zs', (Lit.int .u8 z).wf = true)) :
    Calls Tryd.prog 17 #[.slice A n c, .slice A' n' c'] w fun e w' => e = .returned (.bool (decide (zs = zs'))) ∧ w' = w := by
  have k1 := conv_bytes (P := Tryd.prog) (c := c) Tryd.underlying22 Tryd.underlying5 Tryd.underlying9 hr.out hl
  have k2 := conv_bytes (P := Tryd.prog) (c := c') Tryd.underlying22 Tryd.underlying5 Tryd.underlying9 hr'.out hl'
  have E := Lib.hid (bstr_inj (bytes_range hw.out) (bytes_range hw'.out))
  clear hl hl'
  go_enter Tryd.func17, Tryd.ntmps17
  go_wp2
  go_ret
  refine ⟨ret_bool ?_, rfl⟩
  show ((bstr zs).toList == (bstr zs').toList) = decide (zs = zs')
  rw [ByteArray.toList_eq, ByteArray.toList_eq]
  by_cases h : zs = zs'
  · rw [decide_eq_true h, beq_iff_eq]; exact E.out.2 h
  · rw [decide_eq_false h, beq_eq_false_iff_ne]; exact fun h2 => h (E.out.1 h2)
end Go.Proofs.YtehojhgpgliemaaDoor.Base
