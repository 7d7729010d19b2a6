/-
  CONTRACTS: an image's device (Device, Of at a device), and a device's bytes as a text.
-/
import Derived.Test.YtnhddgmegnehaaaDoorILawBase
import Derived.Test.YtnhddgmegnehaaaDoorGFrom
import Derived.Test.YtnhddgmegnehaaaDoorDImage
set_option linter.unusedVariables false
set_option linter.unusedSimpArgs false
namespace Go.Proofs.YtnhddgmegnehaaaDoor.Base
open Go.ChangeShapes Go.WideShapes Go.ChangeAt Go.RowKit Go.Sort Go.Lib Go.Proofs.YtnhddgmegnehaaaDoor.Args Go.Proofs.YtnhddgmegnehaaaDoor.Own
theorem dev_mono {w : World} {base b : Nat} {A : Dev.Adr} {S : Dev.St} (h : Dev.IsDev w base A S) (hb : b ≤ base) : Dev.IsDev w b A S :=
  { h with
    hist := fun i hi => (h.hist i hi).mono hb
    maps := fun t ht => by
      rcases h.maps t ht with h1 | ⟨b', h4, h5, h6⟩
      · exact .inl h1
      · exact .inr ⟨b', h4, Nat.le_trans hb h5, h6⟩
    bd := Nat.le_trans hb h.bd
    bl := Nat.le_trans hb h.bl }
theorem dfrom_zero (w : World) (P : Option Addr) (c : Nat) :
    Calls Tryd.prog 42 #[.slice P 0 c] w fun e w' => e = .returned (.tuple #[.pointer none, .int .i64 1]) ∧ w' = w := by
  have HN := Lib.hid (Dev.new_bad w 0 (.inl (by omega)))
  go_enter Tryd.func42, Tryd.ntmps42
  go_wp2_with (go_at_call 56; go_must (refine HN.out.mono ?_); rintro e w' ⟨rfl, hw⟩; have hw2 := hw.symm; clear hw; subst hw2)
  go_ret2
  exact ⟨rfl, rfl⟩
theorem ints_range (l : List UInt8) : ∀ z ∈ ints l, 0 ≤ z ∧ z ≤ 255 := fun z hz => by
  unfold ints at hz
  obtain ⟨x, _, rfl⟩ := List.mem_map.1 hz
  have := x.toNat_lt
  omega
set_option maxRecDepth 100000 in
theorem bytes_cap (l : List UInt8) (w : World) (hl : l.length ≤ 4294967295) :
    Calls Tryd.prog 14 #[img l] w fun e w' => ∃ g c, e = .returned (.slice (some ⟨g, 0, none⟩) l.length c) ∧ Hid (NewRow w l g w' ∧ l.length ≤ c ∧ c ≤ maxLen) := by
  have hcell : (w.alloc (.cells #[str l] 25)).cell? ⟨w.heap.size, 0, none⟩ = some (str l) := by rw [World.cell?_alloc_new]; rfl
  have hb : Below w.heap.size w (w.alloc (.cells #[str l] 25)) := (Below.refl _ _).alloc (Nat.le_refl _) _
  have hcv := Go.Lib.run_convert_string_bytes (P := Tryd.prog) (w.alloc (.cells #[str l] 25)) 9 22 5 ⟨l.toArray⟩ Tryd.underlying9 Tryd.underlying22 Tryd.underlying5
  rw [str_size] at hcv
  have HN := Lib.hid (newRow_conv w _ l hb)
  go_enter Tryd.func14, Tryd.ntmps14
  go_wp2
  go_ret
  exact ⟨_, _, rfl, Lib.hid ⟨by simpa using HN.out, grownCap_ge _ _ _ _, grownCap_le_maxLen _ _ _ _ (by simp only [maxLen]; omega)⟩⟩
set_option maxRecDepth 100000 in
theorem dev_ok (l : List UInt8) (m : Nat) (hl : l.length = 64 * m) (h0 : 1 ≤ m) (h1 : m ≤ 4096) (w : World) :
    Calls Tryd.prog 29 #[img l] w fun e w' => ∃ A : Dev.Adr, e = .returned (.tuple #[.pointer (some ⟨A.d, 0, none⟩), .int .i64 0]) ∧ Hid (Dev.IsDev w' w.heap.size A (Dev.St.fromK (ints l) m m) ∧ Below w.heap.size w w') := by
  have hcell : (w.alloc (.cells #[str l] 25)).cell? ⟨w.heap.size, 0, none⟩ = some (str l) := by rw [World.cell?_alloc_new]; rfl
  have hb : Below w.heap.size w (w.alloc (.cells #[str l] 25)) := (Below.refl _ _).alloc (Nat.le_refl _) _
  have HB := Lib.hid hb
  have HL := Lib.hid hl
  have HI : Hid ((ints l).length = 64 * m) := Lib.hid (by rw [ints_length, hl])
  have HY := Lib.hid (fun w => bytes_cap l w (by omega))
  rw [hl] at HY
  clear hl hb
  go_enter Tryd.func29, Tryd.ntmps29
  go_wp2_with (first
    | (go_at_call 14; go_must (refine (HY.out _).mono ?_); rintro e w1 ⟨g, c, rfl, HN⟩)
    | (go_at_call 42; go_must (refine (Dev.dfrom_any _ (some ⟨g, 0, none⟩) (64 * m) c (g + 1) m (ints l) HI.out rfl h0 h1 HN.out.2.1 HN.out.2.2 HN.out.1.at_ HN.out.1.hi (ints_range l)).mono ?_); rintro e w2 ⟨A, rfl, HD⟩))
  go_ret2
  exact ⟨A, rfl, Lib.hid ⟨dev_mono HD.out.1 (by have := HB.out.size; have := HN.out.1.bb.size; omega), (HB.out.trans (HN.out.1.bb.mono HB.out.size)).trans (HD.out.2.mono (by have := HB.out.size; have := HN.out.1.bb.size; omega))⟩⟩
theorem dev_none (w : World) : Calls Tryd.prog 29 #[img []] w fun e w' => e = .returned (.tuple #[.pointer none, .int .i64 1]) ∧ Below w.heap.size w w' := by
  have hcell : (w.alloc (.cells #[str []] 25)).cell? ⟨w.heap.size, 0, none⟩ = some (str []) := by rw [World.cell?_alloc_new]; rfl
  have hb : Below w.heap.size w (w.alloc (.cells #[str []] 25)) := (Below.refl _ _).alloc (Nat.le_refl _) _
  have HB := Lib.hid hb
  have HY := Lib.hid (fun w => bytes_any [] w (by simp))
  rw [show ([] : List UInt8).length = 0 from rfl] at HY
  clear hb
  go_enter Tryd.func29, Tryd.ntmps29
  go_wp2_with (first
    | (go_at_call 14; go_must (refine (HY.out _).mono ?_); rintro e w1 ⟨g, c, rfl, HN⟩)
    | (go_at_call 42; go_must (refine (dfrom_zero _ (some ⟨g, 0, none⟩) c).mono ?_); rintro e w2 ⟨rfl, hw⟩; have hw2 := hw.symm; clear hw; subst hw2))
  go_ret2
  exact ⟨rfl, HB.out.trans (HN.out.bb.mono HB.out.size)⟩
set_option maxRecDepth 100000 in
theorem of_dev (w : World) (base M : Nat) (A : Dev.Adr) (S : Dev.St) (h : Dev.IsDev w base A S) (hS : S.Ok M) (hM : M ≤ 1000000) (l : List UInt8) (hl : u8s (Dev.content S (fun _ => 0) S.n) = l) :
    Calls Tryd.prog 34 #[.pointer (some ⟨A.d, 0, none⟩)] w fun e w' => e = .returned (img l) ∧ Below w.heap.size w w' := by
  have k1 : (w.alloc (.cells #[.string ⟨#[]⟩] 25)).cell? ⟨w.heap.size, 0, none⟩ = some (.string ⟨#[]⟩) := (one_kept w).1
  have k2 := (one_kept w).2.1
  have k3 := (one_kept w).2.2
  obtain ⟨w0, hw0⟩ : ∃ w0, w.alloc (.cells #[.string ⟨#[]⟩] 25) = w0 := ⟨_, rfl⟩
  rw [hw0] at k1 k2 k3
  have HW0 := Lib.hid hw0
  have hz0 : w.heap.size < w0.heap.size := by rw [← hw0]; simp
  have HP := Lib.hid (Dev.persisted_any w0 0 M A S ((dev_mono h (Nat.zero_le _)).below k3 (Nat.le_refl _)) hS hM)
  have HLn := Lib.hid hl
  clear hw0 h hl
  go_enter Tryd.func34, Tryd.ntmps34
  go_wp2_with (go_at_call 32; refine Hid.out ?_)
  rw [HW0.out]
  refine Lib.hid ?_
  go_wp2_with (go_at_call 32; go_must (refine (HP.out).mono ?_); rintro e w2 ⟨v, rfl, HV⟩; obtain ⟨A2, c2, rfl, _, _, _, hat⟩ := OwnInts.form HV.out.1; have q1 := (HV.out.2.cell (p := ⟨w.heap.size, 0, none⟩) hz0).trans k1; have q2 := (HV.out.2.frozen (p := ⟨w.heap.size, 0, none⟩) hz0).trans k2; have hcv := conv_u8s (c := c2) hat rfl; rw [HLn.out] at hcv; have hb2 := k3.trans (HV.out.2.mono k3.size); clear hat)
  have hfin := World.cell?_setCell_same w2 ⟨w.heap.size, 0, none⟩ (str l) q1
  have hbf : Below w.heap.size w (w2.setCell ⟨w.heap.size, 0, none⟩ (str l)) := hb2.setCell (Nat.le_refl _) _
  refine bodyPost_ret (v := img l) (by simp [results, Tryd.results34, go_sem, hfin]) rfl ⟨rfl, hbf⟩
end Go.Proofs.YtnhddgmegnehaaaDoor.Base
