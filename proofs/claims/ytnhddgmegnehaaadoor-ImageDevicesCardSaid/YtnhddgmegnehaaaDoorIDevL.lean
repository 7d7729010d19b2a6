/-
  CONTRACTS: a fresh device of an image, wherever it lies: Lines, Dirty, Persisted, Current, image.Of.
-/
import Derived.Test.YtnhddgmegnehaaaDoorIDev
import Derived.Test.YtnhddgmegnehaaaDoorDCurrent
set_option linter.unusedVariables false
set_option linter.unusedSimpArgs false
namespace Go.Proofs.YtnhddgmegnehaaaDoor.Base
open Go.ChangeShapes Go.WideShapes Go.ChangeAt Go.RowKit Go.Sort Go.Lib Go.Proofs.YtnhddgmegnehaaaDoor.Args Go.Proofs.YtnhddgmegnehaaaDoor.Own
/-- A device that holds exactly an image's bytes, beside the image's cell. -/
structure DI (W w : World) (A : Dev.Adr) (g : Nat) (l : List UInt8) (m : Nat) : Prop where
  dev : Dev.IsDev w W.heap.size A (Dev.St.fromK (ints l) m m)
  box : Box W g l w
theorem DI.on {W w w' : World} {A : Dev.Adr} {g : Nat} {l : List UInt8} {m : Nat} (h : DI W w A g l m) (hb : Below w.heap.size w w') : DI W w' A g l m := ⟨h.dev.below hb (Nat.le_refl _), h.box.on hb⟩
section
variable {W w : World} {A : Dev.Adr} {g : Nat} {l : List UInt8} {m : Nat}
theorem from_content (hl : l.length = 64 * m) : Dev.content (Dev.St.fromK (ints l) m m) (fun _ => 0) m = ints l := by
  rw [Dev.content_from (ints l) m m (Nat.le_refl _) (by rw [ints_length, hl]) (ints_range l)]
  rw [List.take_of_length_le (by rw [ints_length, hl]; exact Nat.le_refl _)]
theorem from_whole (hl : l.length = 64 * m) : Dev.content (Dev.St.fromK (ints l) m m) (Dev.whole (Dev.St.fromK (ints l) m m)) m = ints l := from_content hl
theorem from_dirty : Dev.dirtyTo (Dev.St.fromK (ints l) m m) m = [] := by
  unfold Dev.dirtyTo
  simp [Dev.fromK_hist]
theorem from_ok (h1 : 1 ≤ m) (h2 : m ≤ 4096) : (Dev.St.fromK (ints l) m m).Ok 0 := Dev.St.fromK_ok (ints l) m m (ints_range l) h1 h2
theorem dev_lines (h : DI W w A g l m) : Calls Tryd.prog 30 #[.pointer (some ⟨A.d, 0, none⟩)] w fun e w' => e = .returned (.int .i64 (m : Int)) ∧ w' = w :=
  Dev.lines_any w A _ h.dev.db
theorem dev_dirty (h : DI W w A g l m) (hl : l.length = 64 * m) (h1 : 1 ≤ m) (h2 : m ≤ 4096) : Calls Tryd.prog 31 #[.pointer (some ⟨A.d, 0, none⟩)] w fun e w' => ∃ A' c, e = .returned (.slice A' 0 c) ∧ Below w.heap.size w w' := by
  refine (Dev.dirty_any w _ 0 A _ h.dev (from_ok h1 h2)).mono ?_
  rintro e w' ⟨v, rfl, H⟩
  obtain ⟨A', c, rfl, _⟩ := OwnInts.form H.out.1
  rw [show (Dev.St.fromK (ints l) m m).n = m from rfl, from_dirty]
  exact ⟨A', c, rfl, H.out.2⟩
theorem dev_pers (h : DI W w A g l m) (hl : l.length = 64 * m) (h1 : 1 ≤ m) (h2 : m ≤ 4096) : Calls Tryd.prog 32 #[.pointer (some ⟨A.d, 0, none⟩)] w fun e w' => ∃ A' c, e = .returned (.slice A' (64 * m) c) ∧ Hid (Below w.heap.size w w' ∧ ∀ w2, Below w'.heap.size w' w2 → (convert 22 9 (.slice A' (64 * m) c)).run Tryd.prog w2 = .ok (.string ⟨l.toArray⟩) w2) := by
  refine (Dev.persisted_any w _ 0 A _ h.dev (from_ok h1 h2) (by omega)).mono ?_
  rintro e w' ⟨v, rfl, H⟩
  have hc := H.out.1
  rw [show (Dev.St.fromK (ints l) m m).n = m from rfl, from_content hl] at hc
  obtain ⟨A', c, rfl, _, _, _, hat⟩ := OwnInts.form hc
  rw [ints_length, hl]
  refine ⟨A', c, rfl, Lib.hid ⟨H.out.2, fun w2 hb => ?_⟩⟩
  have := conv_u8s (c := c) (hat.below hb) (show (ints l).length = 64 * m by rw [ints_length, hl])
  rw [u8s_ints] at this
  exact this
theorem dev_cur (h : DI W w A g l m) (hl : l.length = 64 * m) (h1 : 1 ≤ m) (h2 : m ≤ 4096) : Calls Tryd.prog 33 #[.pointer (some ⟨A.d, 0, none⟩)] w fun e w' => ∃ A' c, e = .returned (.slice A' (64 * m) c) ∧ Hid (Below w.heap.size w w' ∧ ∀ w2, Below w'.heap.size w' w2 → (convert 22 9 (.slice A' (64 * m) c)).run Tryd.prog w2 = .ok (.string ⟨l.toArray⟩) w2) := by
  refine (Dev.current_any w _ 0 A _ h.dev (from_ok h1 h2)).mono ?_
  rintro e w' ⟨v, rfl, H⟩
  have hc := H.out.1
  rw [show (Dev.St.fromK (ints l) m m).n = m from rfl, from_whole hl] at hc
  obtain ⟨A', c, rfl, _, _, _, hat⟩ := OwnInts.form hc
  rw [ints_length, hl]
  refine ⟨A', c, rfl, Lib.hid ⟨H.out.2, fun w2 hb => ?_⟩⟩
  have := conv_u8s (c := c) (hat.below hb) (show (ints l).length = 64 * m by rw [ints_length, hl])
  rw [u8s_ints] at this
  exact this
theorem dev_of (h : DI W w A g l m) (hl : l.length = 64 * m) (h1 : 1 ≤ m) (h2 : m ≤ 4096) : Calls Tryd.prog 34 #[.pointer (some ⟨A.d, 0, none⟩)] w fun e w' => e = .returned (img l) ∧ Below w.heap.size w w' :=
  of_dev w _ 0 A _ h.dev (from_ok h1 h2) (by omega) l (by rw [show (Dev.St.fromK (ints l) m m).n = m from rfl, from_content hl, u8s_ints])
end
end Go.Proofs.YtnhddgmegnehaaaDoor.Base
