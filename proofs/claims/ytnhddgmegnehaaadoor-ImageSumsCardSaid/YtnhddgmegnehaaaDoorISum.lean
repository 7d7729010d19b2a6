/-
  CONTRACTS: an image's Sum; what the rows of ImageSums list.
-/
import Derived.Test.YtnhddgmegnehaaaDoorILawBase
import Derived.Test.YtnhddgmegnehaaaDoorIDev
import Derived.Test.YtnhddgmegnehaaaDoorZC
set_option linter.unusedVariables false
set_option linter.unusedSimpArgs false
namespace Go.Proofs.YtnhddgmegnehaaaDoor.Base
open Go.ChangeShapes Go.WideShapes Go.ChangeAt Go.RowKit Go.Sort Go.Lib Go.Proofs.YtnhddgmegnehaaaDoor.Args Go.Proofs.YtnhddgmegnehaaaDoor.Own Go.Proofs.YtnhddgmegnehaaaDoor.Law
theorem ints_wf (l : List UInt8) : ∀ z ∈ ints l, (Lit.int .u8 z).wf = true := fun z hz => by
  have := ints_range l z hz
  simpa [Lit.wf, IntKind.min, IntKind.max, IntKind.bits, IntKind.signed] using this
set_option maxRecDepth 100000 in
theorem isum_any (l : List UInt8) (w : World) (hl : l.length ≤ 4294967295) (ht : Hid (Crc.Tab w)) :
    Calls Tryd.prog 27 #[img l] w fun e w' => e = .returned (.int .u32 ((CrcMath.crcN 0 (ints l) : Nat) : Int)) ∧ Below w.heap.size w w' := by
  have hcell : (w.alloc (.cells #[str l] 25)).cell? ⟨w.heap.size, 0, none⟩ = some (str l) := by rw [World.cell?_alloc_new]; rfl
  have HB := Lib.hid (show Below w.heap.size w (w.alloc (.cells #[str l] 25)) from (Below.refl _ _).alloc (Nat.le_refl _) _)
  have HY := Lib.hid (fun w => bytes_any l w hl)
  have HI := Lib.hid (ints_length l)
  go_enter Tryd.func27, Tryd.ntmps27
  go_wp2_with (first
    | (go_at_call 14; go_must (refine (HY.out _).mono ?_); rintro e w1 ⟨g, c, rfl, HN⟩)
    | (go_at_call 28; go_must (refine (Crc.sum_any (some ⟨g, 0, none⟩) l.length c (g + 1) (ints l) _ HI.out (by omega) (Lib.hid (Crc.Tab.below (Crc.Tab.below ht.out HB.out) HN.out.bb)) (Lib.hid HN.out.at_) (Lib.hid (ints_wf l))).mono ?_); rintro e w2 ⟨rfl, k1, hw⟩; subst w2))
  go_ret
  exact ⟨rfl, Go.Proofs.YtnhddgmegnehaaaDoor.Law.below_draws (HB.out.trans (HN.out.bb.mono HB.out.size)) _⟩
theorem cellsTab : Tryd.prog.cellsOf 110 = 16 := by kernel_rfl
theorem cellsU32 : Tryd.prog.cellsOf 50 = 1 := by kernel_rfl
theorem tab_of {l : List (String × DataW Unit)} {W : World} (h : laidMetH Tryd.prog l W)
    (hh : laidMetH Tryd.prog l W = laidMet Tryd.prog l W)
    (hf : l.filter (fun x => x.1 == "bedrock/crc.lowNibble") = [("bedrock/crc.lowNibble", Lib.tabData .u32 CrcMath.lowL)])
    (hf2 : l.filter (fun x => x.1 == "bedrock/crc.highNibble") = [("bedrock/crc.highNibble", Lib.tabData .u32 CrcMath.highL)]) : Crc.Tab W := by
  rw [hh] at h
  have c0 := tab_in (k := .u32) (zs := CrcMath.lowL) (show Tryd.prog.globalNamed "bedrock/crc.lowNibble" = some 0 by kernel_rfl) (show (Tryd.prog.globals[0]?).map (·.type) = some 110 by kernel_rfl) Tryd.underlying110 Tryd.underlying50 cellsU32 cellsTab h hf
  have c1 := tab_in (k := .u32) (zs := CrcMath.highL) (show Tryd.prog.globalNamed "bedrock/crc.highNibble" = some 1 by kernel_rfl) (show (Tryd.prog.globals[1]?).map (·.type) = some 110 by kernel_rfl) Tryd.underlying110 Tryd.underlying50 cellsU32 cellsTab h hf2
  exact fun i hi => ⟨c0 i hi, c1 i hi⟩
theorem envsSum {W : World} (h : laidMetH Tryd.prog Rows.imageSumsRow.laid W) (hS : W.ShapedOpen Tryd.prog) : (Pow W.heap.size W ∧ Tz W.heap.size W) ∧ Crc.Tab W := ⟨env_of h rfl (by rfl) (by rfl), tab_of h rfl (by rfl) (by rfl)⟩
noncomputable def laidWorldSum (os : Os) : World := World.laidAll Tryd.prog os Rows.imageSumsRow.laid
end Go.Proofs.YtnhddgmegnehaaaDoor.Base
