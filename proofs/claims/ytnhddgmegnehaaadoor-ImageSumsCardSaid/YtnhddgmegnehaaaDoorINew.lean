/-
  CONTRACT OF PACKAGE image: New.
-/
import Derived.Test.YtnhddgmegnehaaaDoorIDiff
set_option linter.unusedVariables false
set_option linter.unusedSimpArgs false
namespace Go.Proofs.YtnhddgmegnehaaaDoor.Base
open Go.ChangeShapes Go.WideShapes Go.ChangeAt Go.RowKit Go.Sort Go.Lib Go.Proofs.YtnhddgmegnehaaaDoor.Args Go.Proofs.YtnhddgmegnehaaaDoor.Own
/-- a row's numbers as bytes. -/
def u8s (zs : List Int) : List UInt8 := zs.map fun z => UInt8.ofNat z.toNat
theorem u8s_length (zs : List Int) : (u8s zs).length = zs.length := by simp [u8s]
theorem bstr_u8s (zs : List Int) : bstr zs = ⟨(u8s zs).toArray⟩ := ba_of _ _ (bstr_data zs)
theorem conv_u8s {w : World} {A : Option Addr} {n c B : Nat} {zs : List Int} (hr : IntsAt .u8 w B A zs) (hl : zs.length = n) :
    (convert 22 9 (.slice A n c)).run Tryd.prog w = .ok (.string ⟨(u8s zs).toArray⟩) w := by
  rw [conv_bytes Tryd.underlying22 Tryd.underlying5 Tryd.underlying9 hr hl, bstr_u8s]
theorem one_kept (w : World) : (w.alloc (.cells #[.string ⟨#[]⟩] 25)).cell? ⟨w.heap.size, 0, none⟩ = some (.string ⟨#[]⟩) ∧ (w.alloc (.cells #[.string ⟨#[]⟩] 25)).frozen? ⟨w.heap.size, 0, none⟩ = false ∧ Below w.heap.size w (w.alloc (.cells #[.string ⟨#[]⟩] 25)) :=
  ⟨by rw [World.cell?_alloc_new]; rfl, World.frozen?_alloc_new _ _ _ _, (Below.refl _ _).alloc (Nat.le_refl _) _⟩
theorem new_ok (A : Option Addr) (n c B : Nat) (zs : List Int) (w : World) (hl : zs.length = n) (hr : Hid (IntsAt .u8 w B A zs)) (hB : B ≤ w.heap.size) (h64 : n % 64 = 0) (hn : n ≤ 262144) :
    Calls Tryd.prog 11 #[.slice A n c] w fun e w' => e = .returned (.tuple #[img (u8s zs), .int .i64 0]) ∧ Below w.heap.size w w' := by
  obtain ⟨k1, k2, k3⟩ := one_kept w
  have hr2 : IntsAt .u8 (w.alloc (.cells #[.string ⟨#[]⟩] 25)) B A zs := hr.out.below (k3.mono hB)
  have hcv := conv_u8s (c := c) hr2 hl
  have hm : (n : Int) % 64 = 0 := by omega
  have hm2 : (n : Int).tmod 64 = 0 := by rw [Int.tmod_eq_emod_of_nonneg (by omega)]; exact hm
  have hfin := World.cell?_setCell_same _ ⟨w.heap.size, 0, none⟩ (.string ⟨(u8s zs).toArray⟩) k1
  have hbf := k3.setCell (p := ⟨w.heap.size, 0, none⟩) (Nat.le_refl _) (.string ⟨(u8s zs).toArray⟩)
  have hgt : decide ((262144 : Int) < (n : Int)) = false := by rw [decide_eq_false_iff_not]; omega
  have hgt2 : ¬ (262144 : Int) < (n : Int) := by omega
  clear h64 hl hn
  go_enter Tryd.func11, Tryd.ntmps11
  go_wp2
  refine bodyPost_ret (v := .tuple #[img (u8s zs), .int .i64 0]) (by simp [results, Tryd.results11, go_sem]) rfl ⟨rfl, (Below.refl _ _).alloc (Nat.le_refl _) _⟩
theorem new_form (A : Option Addr) (n c : Nat) (w : World) (h64 : ¬ n % 64 = 0) :
    Calls Tryd.prog 11 #[.slice A n c] w fun e w' => e = .returned (.tuple #[img [], .int .i64 11]) ∧ Below w.heap.size w w' := by
  obtain ⟨k1, k2, k3⟩ := one_kept w
  obtain ⟨r, hr⟩ : ∃ r, n % 64 = r := ⟨_, rfl⟩
  have h1 : (n : Int) % 64 = (r : Int) := by omega
  have h2 : (n : Int).tmod 64 = (r : Int) := by rw [Int.tmod_eq_emod_of_nonneg (by omega)]; exact h1
  have h3 : ((r : Int) == 0) = false := by simp; omega
  have h4 : ¬ (r : Int) = 0 := by omega
  clear h64 hr
  go_enter Tryd.func11, Tryd.ntmps11
  go_wp2
  first
    | (refine bodyPost_ret (v := .tuple #[img [], .int .i64 11]) (by simp [results, Tryd.results11, go_sem, k1]) rfl ⟨rfl, k3⟩)
    | (have hfin := World.cell?_setCell_same _ ⟨w.heap.size, 0, none⟩ (.string ⟨#[]⟩) k1
       have hbf := k3.setCell (p := ⟨w.heap.size, 0, none⟩) (Nat.le_refl _) (.string ⟨#[]⟩)
       refine bodyPost_ret (v := .tuple #[img [], .int .i64 11]) (by simp [results, Tryd.results11, go_sem, hfin]) rfl ⟨rfl, hbf⟩)
end Go.Proofs.YtnhddgmegnehaaaDoor.Base
